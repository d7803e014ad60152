import PyProof.Rows.All
import Wide.All
import OpenK.AllK
import Wide.FinOn
import Lean
import PyProof.EqAt
import PyProof.EqKinds
import PyProof.TupleCall
import PyProof.NeKinds
import PyProof.ZipIter
import PyProof.Draws
import PyProof.FactsAll.zip
import KE.KSortTup
import KE.KDictSum
import PyProof.TupleOfSeq
import PyProof.StrWalks
import PyProof.Rows.SetFrom
import KE.KRevIter
import PyProof.Rows.Range3
import KE.KTryMore
import KE.KIsNot
import PyProof.ExcArgsOwn
import PyProof.ExcAttrAll.ValueError
import PyProof.ExcBaseAll.ValueError
import PyProof.NsDelKeeps
import PyProof.Rows.CallKwBuiltin
import PyProof.WalkInts
import PyProof.Rows.Catch
import KE.KLam
import KE.KNestM
import PyProof.FactsAll.list_3
import KE.KDictList
import PyProof.Rows.CountFlat
import KE.KDictOf
import PyProof.AttrMissHeap
import PyProof.DictFindH
import PySem.Challenge.RW_twoglass_k42_unnested
set_option Elab.async false
set_option linter.all false
set_option maxRecDepth 100000
open List renaming filterMap_cons→O5, mem_cons_self→O6, mem_cons_of_mem→O7, mem_append_left→O8, getElem?_set_self→O9, getElem?_set_ne→Pa, mem_append_right→Pj, size_toArray→Pm, length_cons→Pp, map_cons→Pq, length_map→Pr, append_nil→Pw, of_mem_zip→Py, length_take→Pz, getElem?_append_right→PB, getElem?_replicate→PC, getElem?_append_left→PD, getElem?_map→PF, take_sublist→PH, mem_of_getElem?→PJ, length_append→PK, length_drop→PN, length_singleton→PR, map_nil→PX, find?_cons→PY, any_cons→PZ, length_nil→P0, nodup_nil→P6, lookup_cons→P7, forIn_cons→P8, cons_append→Qb, take_zero→Qc, take_nil→Qd, take_succ_cons→Qe, drop_zero→Qf, drop_succ_cons→Qg, all_cons→Qh, range_succ_eq_map→Qi, getElem?_eq_getElem→Qj, getElem_of_mem→Qn, nil_append→Qo, map_congr_left→Qp, map_append→Qq, length_range→Qr, take_length→Qs, getElem?_range→Qu, drop_eq_getElem_cons→Qv, append_assoc→Qx, drop_length→Qy, mem_cons→Qz, not_mem_nil→QA, getElem?_cons_zero→QB, getElem?_cons_succ→QC, zip_cons_cons→QH, contains_cons→QI, nodup_append→QK, replicate_zero→QM, any_map→QN, zip_nil_right→QO, replicate_succ→QP, foldl_cons→QQ, not_lt_nil→QR, nil_lt_cons→QS, cons_lt_cons_iff→QT, pairwise_singleton→QU, filter_cons_of_pos→QV, filter_cons_of_neg→QW, getElem_mem→QX, pairwise_map→QY, getD_eq_getElem?_getD→QZ, map_map→Q0, toList_toArray→Q1, getElem?_eq_none→Q3, take_of_length_le→Q4, mem_singleton→Q5, find?_cons_of_pos→Q9, find?_cons_of_neg→Ra, drop_eq_nil_of_le→Rb, take_left→Rc, set_cons_zero→Rf, set_cons_succ→Rg, getElem_map→Rj, take_take→Rn, getLast?_append→Ro, getLast?_eq_getLast→Rp, getLast_mem→Rq, dropLast_concat_getLast→Rr, filter_append→Rt, flatMap_cons→Ru, flatMap_append→Rv, flatMap_singleton→Rw, map_singleton→Rx, take_append_drop→Ry, any_eq_true→Rz, mem_nil_iff→RA, map_id→RB, take_succ_eq_append_getElem→RC, length_filter_le→RE, mem_of_mem_take→RF, mem_of_mem_drop→RG, map_take→RH
open Int renaming natCast_nonneg→Pk, fdiv_eq_ediv_of_nonneg→Pl, toNat_natCast→PL, emod_nonneg→Rl, emod_lt_of_pos→Rm, toNat_of_nonneg→RD
open Nat renaming lt_of_lt_of_le→OZ, lt_irrefl→O0, ne_of_lt→O1, le_trans→O2, le_of_lt→O3, ne_of_gt→Pb, le_refl→Ph, le_of_eq→Pt, zero_le→Pu, le_succ→Px, lt_trans→P5, lt_succ_of_lt→Qa, min_self→Qk, sub_zero→Qt, lt_of_le_of_lt→Qw, le_add_right→QD, add_lt_add_left→QE, lt_add_of_pos_right→QF, zero_add→QG, sub_self→QL, lt_or_ge→Q2, le_total→Q6, min_eq_left→Q7, min_eq_right→Q8
open Bool renaming false_ne_true→Pn, and_eq_true→PP, and_false→PV, false_eq_true→P9, and_true→Ql, or_eq_true→Qm, or_eq_false_iff→QJ, not_true→Rh, not_false→Ri
open Option renaming getD_none→PQ, isSome_map→P4
open PySem renaming Value→SY, World→SZ, Program→S0, Addr→S3, Paired→S4, Heap→S5, sizeLine→S6, mainGlobals→S8, builtinsNs→S9, bootBuiltins→Ta, Around→Tb, Shared→Tc, Scope→Td, wpAny→Te, Expr→Tf, starEach→Tg, Stmt→Th, wpAny_mono→Ti, wpAny_Name→Tj, wpAny_truthy_bool→Tl, wpAny_execs_nil→Tn, wpAny_pure→To, wpAny_bind→Tp, wpAny_pyIter_list→Tq, PassesOwn→Tr, foldedSetIterable→Ts, wpAny_passesOwn→Tt, binaryOp→Tu, compareOp→Tv, behindInMarks→Tw, sizeLine_eq→Tx, codeAny→Tz, attributeBase→TB, callWith→TC, keywordEach→TF, recursionLimit→TH, cLine→TJ, FuncData→TK, BindsTo→TL, codeAny_mono→TN, wpAny_Call_Name_kw→TQ, NameKind→TR, Arguments→TU, concat_meets→TV, noFill_tuple_add→TY, seq_tuple_add→TZ, IsPart→T2, wpAny_field→T3, wpAny_holding→T5, wpAny_callSpecial?_slot→T6, wpAny_call_entry→T7, wpAny_typeOf→T8, wpAny_newObj_type→T9, evalPart_none→Ua, Keyword→Uc, tupleKind_room_in1→Ud, wpAny_standAt→Ue, wpAny_comprehension_free→Ug, wpAny_rule→Uh, wpAny_getItem_str_slice→Ui, post_val_or_str→Uj, wpAny_seqItems→Uk, wpAny_setField→Ul, wpAny_handled→Um, IsZip→Uo, IsPair→Uq, wpAny_setField_rec→Ur, wpAny_onRaise→Us, wpAny_updateSeq_pair→Ut, wpAny_letGo→Uu, wpAny_newTuple→Uv, wpAny_attempt→Uw, wpAny_isInstance→Ux, isSubtype_stop→Uy, wpAny_newList→UE, wpAny_collect_seq→UG, wpAny_notOrdered_dict→UI, wpAny_dictEntries→UJ, DictEntry→UK, wpAny_dictEpoch→UL, IsItemIter→UM, IsItemIterOut→UN, wpAny_typeNameOfWhole_itemiter→UO, wpAny_typeNameOf_itemiter→UP, wpAny_fieldsOf→UQ, wpAny_isOneOf_itemiter→UR, wpAny_typeNameOfWhole_keyiter→UT, wpAny_typeNameOf_keyiter→UU
open PySem.W renaming instObj→RJ, methodObj→RK, Frag→RL, lookIn→RM, plainGet→RN, hasDictIn→RO, findIn→RP, handedIn→RQ, plainGet_of→RT, isFn→RU, plainOver→RV, takerIn→RW, makesIn→RX, emptyDict→RY, keepIn→RZ, callWith_K→R0, cellsFrom_some→R1, fnOf→R3, codeIn→R4, nsIn→R5, kitOne→R6, kia_one→R7, BoolBack→R8, tabObj→R9, kla_fn→Sa, OpenLaw→Sb, kdl_call→Sd, codeHdIn→Se, mg_of→Sf, mg_none_of→Sg, kas_ask→UA, kla_obj→UH
open PySem.Heap renaming lt_size→Si, get?_none_of_le→Sj, SameBut→Sl, get?_push_of_some→Sn, get?_push_size→Sq, size_push→Sr, get?_update_self→Ss, ExtBut→Su, get?_push_ne→Sv, size_update→Sw, get?_update_ne→Sx
open PyProof.Rows renaming callWith_type1→Sy, slot_tuple_getitem→Sz, envOfC→SA, IsTup→SD, Call_→SE, boot_str→SF, boot_bool→SG, boot_int→SH, boot_tuple→SJ, boot_dict→SK, boot_list→SL, boot_max→SM, IsTup→S7, Subscript_→Ub, SortKind→Uz, listUpdate_at→UB, get?_update_seq→UC, seqEpoch_at→UD
open PySem.F renaming slot_tuple_add→SN, entry_tuple_add→SR, args_tuple_add_2→SU, slot_list_append→SV, type_list_append→SW
set_option maxHeartbeats 1000000
local macro_rules | `(‹1›)=>`(by first | exact Or.inl rfl | exact Or.inr rfl)
local macro_rules | `(‹2›)=>`(⟨rfl, rfl, rfl, by decide +kernel, rfl, by decide +kernel, by decide +kernel⟩)
local macro_rules | `(‹0›)=>`(by omega)
namespace L2
open PySem PySem.Spec PyProof.Rows

abbrev Key:=Sum Int Str
def qZ:Key->SY->Bool
 | .inl k,v=>Value.isInt k v
 | .inr x,v=>Value.isStrOf x v
def N2 (w:SZ):Key->Int
 | .inl k=>hashInt k
 | .inr x=>hashStr w x
theorem dB:∀ {k:Key} {v:SY},qZ k v=true->(∃ i t,k=Sum.inl i/\v=Value.int i t)\/(∃ x t,k=Sum.inr x/\v=Value.str x t)
 | .inl i,v,h=>by
  obtain⟨t,e⟩:=Value.isInt_shape (k:=i) (v:=v) h;exact .inl ⟨i,t,rfl,e⟩
 | .inr x,v,h=>by
  obtain⟨t,e⟩:=Value.isStrOf_shape (x:=x) (v:=v) h;exact .inr ⟨x,t,rfl,e⟩
theorem CD (i:Int) (t:Tok):qZ (.inl i) (.int i t)=true:=by simp [qZ,Value.isInt]
theorem BQ (x:Str) (t:Tok):qZ (.inr x) (.str x t)=true:=by simp [qZ,Value.isStrOf]
theorem IQ (a b:Int):decide ((Sum.inl a:Key)=Sum.inl b)=(a==b):=by
 by_cases e:a=b
 ·subst e; simp
 ·have h:¬ (Sum.inl a:Key)=Sum.inl b:=fun q=>e (Sum.inl.inj q);rw [decide_eq_false h];exact(beq_eq_false_iff_ne.mpr e).symm
theorem Ig (a b:Str):decide ((Sum.inr a:Key)=Sum.inr b)=decide (a=b):=by
 by_cases e:a=b
 ·subst e; simp
 ·have h:¬ (Sum.inr a:Key)=Sum.inr b:=fun q=>e (Sum.inr.inj q);rw [decide_eq_false h,decide_eq_false e]
theorem Ic (a:Int) (b:Str):decide ((Sum.inl a:Key)=Sum.inr b)=false:=decide_eq_false (fun q=>nomatch q)
theorem Jo (a:Str) (b:Int):decide ((Sum.inr a:Key)=Sum.inl b)=false:=decide_eq_false (fun q=>nomatch q)

def cn (prog:S0) (w:SZ):PySem.KeyKind prog w Key where
 is:=qZ
 hash:=N2 w
 inj:=fun v a b ha hb=>by
  rcases dB ha with ⟨i,t,rfl,rfl⟩ | ⟨x,t,rfl,rfl⟩
  ·rcases dB hb with ⟨j,u,rfl,e⟩ | ⟨y,u,rfl,e⟩
   ·injection e with e1 _; rw [e1]
   ·exact nomatch e
  ·rcases dB hb with ⟨j,u,rfl,e⟩ | ⟨y,u,rfl,e⟩
   ·exact nomatch e
   ·injection e with e1 _; rw [e1]
 byValue:=fun k v h=>by
  rcases dB h with ⟨i,t,rfl,rfl⟩ | ⟨x,t,rfl,rfl⟩ <;> rfl
 pyHash:=fun hv h=>by
  rcases dB hv with ⟨i,t,rfl,rfl⟩ | ⟨x,t,rfl,rfl⟩
  ·exact wpAny_pyHash_int h
  ·exact wpAny_pyHash_str h
 eqBool:=fun hu hv h=>by
  rcases dB hu with ⟨i,t,rfl,rfl⟩ | ⟨x,t,rfl,rfl⟩
  ·rcases dB hv with ⟨j,u,rfl,rfl⟩ | ⟨y,u,rfl,rfl⟩
   ·rw [IQ] at h; exact wpAny_eqBool_int h
   ·rw [Ic] at h; exact SeqAt.EqAt.int_str i t y u _ _ _ _ h
  ·rcases dB hv with ⟨j,u,rfl,rfl⟩ | ⟨y,u,rfl,rfl⟩
   ·rw [Jo] at h; exact SeqAt.EqAt.str_int x t j u _ _ _ _ h
   ·rw [Ig] at h; exact wpAny_eqBool_str h
 «strs»:=fun k x t v h=>by
  rcases dB h with ⟨i,u,rfl,e⟩ | ⟨y,u,rfl,e⟩
  ·exact nomatch e
  ·injection e with e1 _;subst e1;cases v <;> rfl

theorem AC (prog:S0) (w:SZ) (k:Key) (v:SY):(cn prog w).is k v=qZ k v:=rfl
theorem yP (prog:S0) (w:SZ) (i:Int) (t:Tok):(cn prog w).is (.inl i) (.int i t)=true:=CD i t
theorem x4 (prog:S0) (w:SZ) (x:Str) (t:Tok):(cn prog w).is (.inr x) (.str x t)=true:=BQ x t
end L2

namespace L2
open PySem PySem.Spec PyProof.Rows

inductive V where
 | non | bl (b:Bool) | int (i:Int) | str (x:Str) | byt (b:Array UInt8) | flt (b:UInt64) | ref (a:S3) | ty (n:String)
 deriving DecidableEq

def RelV:V->SY->Prop
 | .non,u=>u=Value.none
 | .bl b,u=>u=Value.bool b
 | .int i,u=>∃ t,u=Value.int i t
 | .str x,u=>∃ t,u=Value.str x t
 | .byt b,u=>∃ t,u=Value.bytes b t
 | .flt b,u=>∃ t,u=Value.float b t
 | .ref a,u=>u=Value.ref a
 | .ty n,u=>u=Value.type n

abbrev Vals:List V->List SY->Prop:=S4 RelV
theorem Vals.length {xs:List V} {us:List SY} (r:Vals xs us):xs.length=us.length:=Paired.length r
theorem Vals.get:∀ {xs:List V} {us:List SY} {i:Nat} {x:V},Vals xs us->xs[i]?=some x->∃ u,us[i]?=some u/\RelV x u
 | _,_,_,_,.nil,e=>by simp at e
 | _,_,0,_,.cons r _,e=>by simp at e; subst e; exact⟨_,rfl,r⟩
 | _,_,i+1,x,.cons _ t,e=>by
  obtain⟨u,h1,h2⟩:=Vals.get (i:=i) (x:=x) t (by simpa using e);exact⟨u,by simpa using h1,h2⟩
theorem Vals.append:∀ {xs ys:List V} {us ws:List SY},Vals xs us->Vals ys ws->Vals (xs++ys) (us++ws)
 | _,_,_,_,.nil,s=>s
 | _,_,_,_,.cons r t,s=>.cons r (Vals.append t s)
theorem Vals.take:∀ {xs:List V} {us:List SY} (n:Nat),Vals xs us->Vals (xs.take n) (us.take n)
 | _,_,0,_=>.nil
 | _,_,_+1,.nil=>.nil
 | _,_,n+1,.cons r t=>.cons r (Vals.take n t)
theorem Vals.drop:∀ {xs:List V} {us:List SY} (n:Nat),Vals xs us->Vals (xs.drop n) (us.drop n)
 | _,_,0,r=>r
 | _,_,_+1,.nil=>.nil
 | _,_,n+1,.cons _ t=>Vals.drop n t
def sG:Option V->Option SY->Prop
 | some v,some u=>RelV v u
 | none,none=>True
 | _,_=>False
def KV {κ:Type}:List (κ×V)->List (κ×SY)->Prop:=S4 fun (p:κ×V) (q:κ×SY)=>p.1=q.1/\RelV p.2 q.2

def kV:Key->V
 | .inl i=>.int i
 | .inr x=>.str x

inductive HO where
  | lst (xs:List V)
  | tup (xs:List V)
  | dK (kvs:List (Key×V)) | dT (kvs:List (List Key×V))
  | set (S:Int->Bool) (n:Nat)
  | ins (C dx:S3) (fs:List (Str×V))
  | own (x:S3)
  | xd (fs:List (Str×V))
  | met (f x:S3)
  | rng (lo hi:Int)
  | frz (o:Obj) (u:HO)
  | tbl (ps:Array SY)
  | ext (φ:(S3->Prop)->S5->Prop)

abbrev Hp:=S3->Option HO
def upd (H:Hp) (a:S3) (o:HO):Hp:=fun b=>if b=a then some o else H b
theorem aQ {H:Hp} {a:S3} {o:HO}:upd H a o a=some o:=by unfold upd; rw [if_pos rfl]
theorem aE {H:Hp} {a b:S3} {o:HO} (h:b≠a):upd H a o b=H b:=by unfold upd; rw [if_neg h]
theorem Fi {H:Hp} {a b:S3} {o u:HO} (h:H a=some o) (h':H b=some u) (d:o≠u):a≠b:=by
 intro e; subst e; rw [h] at h'; exact d (Option.some.inj h')
theorem bc {H:Hp} {a b:S3} {o:HO} (h:H a=some o) (h':H b=none):a≠b:=by
 intro e; subst e; rw [h] at h'; cases h'

section
variable (P:S0) (w:SZ)
def cK (H:Hp) (h:S5) (a:S3):HO->Prop
 | .lst xs=>xs.length<=S6/\∃ (its:List SY) (n:Nat),Vals xs its/\h.get? a=some { cls:=.type "list",data:=.seq its.toArray n }
 | .tup xs=>xs.length<=S6/\∃ its:List SY,Vals xs its/\S7 h a its.toArray
 | .dK kvs=>kvs.length<=S6/\(a==sysModules)=false/\∃ vs,KV kvs vs/\h.DictOf (cn P w) a vs
 | .dT kvs=>kvs.length<=S6/\(a==sysModules)=false/\∃ xs:List (List Key×S3×SY),
   S4 (fun (p:List Key×V) (q:List Key×S3×SY)=>p.1=q.1/\H q.2.1=some (.tup (p.1.map kV))/\RelV p.2 q.2.2) kvs xs /\
   ∃ o es ep,h.get? a=some o/\o.ExactDict/\o.data=.dict es ep/\es.toList=xs.map (entryOfKey (tupleKind (cn P w)))/\(xs.map (·.1)).Nodup
 | .set S n=>h.SetOf (intKind P w) a S n
 | .ins C dx fs=>H dx=some (.own a)/\fs.length<=1000/\dx≠a/\h.get? a=some (RJ C dx) /\
   ∃ mA,h.Ns1 dx mA/\(∀ f,sG (fs.lookup f) (mA f))/\PySem.Within mA (fs.map (·.1))
 | .own _=>∃ o,h.get? a=some o
 | .xd fs=>∃ mA,h.Ns1 a mA/\∀ f,sG (fs.lookup f) (mA f)
 | .rng lo hi=>∃ t u v,h.get? a=some { cls:=.type "range",data:=.fields #[.int lo t,.int hi u,.int 1 v] }
 | .frz o u=>h.get? a=some o/\cK H h a u
 | .tbl ps=>h.get? a=some { cls:=.none,data:=.fields ps }
 | .met f x=>h.get? a=some (RK (.ref f) (.ref x))
 | .ext φ=>φ (fun b=>H b=some (.own a)) h/\(∃ o,h.get? a=some o)/\∀ (S1 S2:S3->Prop) (h1 h2:S5),φ S1 h1->(∀ b,S1 b->S2 b)->(∀ b o,(b=a\/S1 b)->h1.get? b=some o->h2.get? b=some o)->φ S2 h2
def pA (H:Hp) (h:S5):Prop:=∀ a o,H a=some o->cK P w H h a o
end

section
variable {P:S0} {w:SZ} {H H':Hp} {h h':S5} {a:S3} {o:HO}
theorem cK.lt (x:cK P w H h a o):a < h.objs.size:=by
 cases o with
 | lst xs=>obtain⟨_,_,_,_,e⟩:=x; exact Si e
 | tup xs=>obtain⟨_,_,_,p⟩:=x; exact p.lt
 | dK kvs=>obtain⟨_,_,_,_,o,_,_,e,_⟩:=x; exact Si e
 | dT kvs=>obtain⟨_,_,_,_,o,_,_,e,_⟩:=x; exact Si e
 | set S n=>obtain⟨o,_,_,_,e,_⟩:=x; exact Si e
 | ins C dx fs=>obtain⟨_,_,_,e,_⟩:=x; exact Si e
 | own y=>obtain⟨_,e⟩:=x; exact Si e
 | xd fs=>obtain⟨_,⟨_,_,_,e,_⟩,_⟩:=x; exact Si e
 | rng lo hi=>obtain⟨_,_,_,e⟩:=x; exact Si e
 | frz ob u=>obtain⟨e,_⟩:=x; exact Si e
 | tbl ps=>exact Si (show h.get? a=some _ from x)
 | met f y=>exact Si (show h.get? a=some _ from x)
 | ext φ=>obtain⟨_,⟨_,e⟩,_⟩:=x; exact Si e
theorem Paired.mapP {α β:Type} {F G:α->β->Prop}:∀ {l₁:List α} {l₂:List β},S4 F l₁ l₂->(∀ a b,F a b->G a b)->S4 G l₁ l₂
 | _,_,.nil,_=>.nil
 | _,_,.cons r t,f=>.cons (f _ _ r) (Paired.mapP t f)
theorem cK.stay (x:cK P w H h a o) (k:∀ b u,(b=a\/H b=some (.own a))->h.get? b=some u->h'.get? b=some u)
  (ho:∀ b,H b=some (.own a)->H' b=some (.own a)) (ht:∀ b xs,H b=some (.tup xs)->H' b=some (.tup xs)):cK P w H' h' a o:=by
 induction o with
 | lst xs=>obtain⟨z,its,n,r,e⟩:=x; exact⟨z,its,n,r,k _ _ (.inl rfl) e⟩
 | tup xs=>obtain⟨z,its,r,ob,e,c⟩:=x; exact⟨z,its,r,ob,k _ _ (.inl rfl) e,c⟩
 | dK kvs=>obtain⟨z,y,vs,r,ob,es,ep,e,c⟩:=x; exact⟨z,y,vs,r,ob,es,ep,k _ _ (.inl rfl) e,c⟩
 | dT kvs =>
  obtain⟨z,y,xs,r,ob,es,ep,e,c⟩:=x;exact⟨z,y,xs,Paired.mapP r fun p q z=>⟨z.1,ht _ _ z.2.1,z.2.2⟩,ob,es,ep,k _ _ (.inl rfl) e,c⟩
 | set S n=>obtain⟨ob,es,ep,t,e,c⟩:=x; exact⟨ob,es,ep,t,k _ _ (.inl rfl) e,c⟩
 | ins C dx fs =>
  obtain⟨d,z,ne,e,mA,⟨od,es,ep,e2,c⟩,r⟩:=x;exact⟨ho _ d,z,ne,k _ _ (.inl rfl) e,mA,⟨od,es,ep,k _ _ (.inr d) e2,c⟩,r⟩
 | own y=>obtain⟨ob,e⟩:=x; exact⟨ob,k _ _ (.inl rfl) e⟩
 | xd fs=>obtain⟨mA,⟨od,es,ep,e,c⟩,r⟩:=x; exact⟨mA,⟨od,es,ep,k _ _ (.inl rfl) e,c⟩,r⟩
 | rng lo hi=>obtain⟨t,u,v,e⟩:=x; exact⟨t,u,v,k _ _ (.inl rfl) e⟩
 | frz ob u ih=>obtain⟨e,q⟩:=x; exact⟨k _ _ (.inl rfl) e,ih q⟩
 | tbl ps =>
  have e:h.get? a=some { cls:=.none,data:=.fields ps }:=x;show h'.get? a=some { cls:=.none,data:=.fields ps };exact k a _ (.inl rfl) e
 | met f y =>
  have e:h.get? a=some (RK (.ref f) (.ref y)):=x;show h'.get? a=some (RK (.ref f) (.ref y));exact k a _ (.inl rfl) e
 | ext φ=>obtain⟨p,⟨o,e⟩,st⟩:=x; exact⟨st _ _ _ _ p ho k,⟨o,k _ _ (.inl rfl) e⟩,st⟩
theorem pA.lt (x:pA P w H h) (e:H a=some o):a < h.objs.size:=(x a o e).lt
theorem pA.fresh (x:pA P w H h) (e:h.objs.size<=a):H a=none:=by
 cases q:H a with
 | none=>rfl
 | some u=>exact absurd (OZ (x.lt q) e) (O0 _)
theorem pA.kept (x:pA P w H h) (k:∀ b u,h.get? b=some u->h'.get? b=some u):pA P w H h':=fun a o e =>
 (x a o e).stay (fun b u _ q=>k b u q) (fun _ q=>q) fun _ _ q=>q
theorem pA.laid (x:pA P w H h) (k:∀ b u,h.get? b=some u->h'.get? b=some u) (hp:h.objs.size<=a) (new:cK P w (upd H a o) h' a o):pA P w (upd H a o) h':=fun b u e=>by
 have hn:=x.fresh hp;by_cases hb:b=a
 ·subst hb; rw [aQ] at e; cases e; exact new
 ·rw [aE hb] at e;exact(x b u e).stay (fun c v _ q=>k c v q) (fun c q=>by rw [aE (bc q hn)]; exact q) fun c xs q=>by rw [aE (bc q hn)]; exact q
end

def Rd (H:Hp) (a:S3) (u:HO):Prop:=H a=some u\/∃ o,H a=some (.frz o u)
theorem Rd.ok {P:S0} {w:SZ} {H:Hp} {h:S5} {a:S3} {u:HO} (r:Rd H a u) (x:pA P w H h):cK P w H h a u:=by
 rcases r with r | ⟨o,r⟩
 ·exact x a u r
 ·obtain⟨_,q⟩:=x a _ r;exact q
def K9:Option HO->Prop
 | some (.lst _)=>True
 | some (.dK _)=>True
 | some (.dT _)=>True
 | some (.set _ _)=>True
 | some (.ins _ _ _)=>True
 | some (.ext _)=>True
 | _=>False
section
variable {P:S0} {w:SZ} {H:Hp} {h h':S5} {x e:S3} {o':HO}
theorem pA.write (ok:pA P w H h) (mu:K9 (H x)) (he:e=x\/H e=some (.own x)) (k:∀ b u,b≠e->h.get? b=some u->h'.get? b=some u) (heo:∃ u,h'.get? e=some u)
  (new:cK P w (upd H x o') h' x o'):pA P w (upd H x o') h':=fun b u q=>by
 have nown:∀ c y,H c=some (.own y)->c≠x:=fun c y r z=>by subst z; rw [r] at mu; exact mu
 have ntup:∀ c xs,H c=some (.tup xs)->c≠x:=fun c xs r z=>by subst z; rw [r] at mu; exact mu
 by_cases hb:b=x
 ·subst hb; rw [aQ] at q; cases q; exact new
 ·rw [aE hb] at q;by_cases hbe:b=e
  ·have q':H b=some (.own x):=by
    rcases he with z | z
    ·exact absurd (hbe.trans z) hb
    ·rw [hbe]; exact z
   rw [q] at q'; cases q';obtain⟨v,hv⟩:=heo;exact⟨v,by rw [hbe]; exact hv⟩
  ·refine(ok b u q).stay (fun c v hc r=>k c v ?_ r) (fun c r=>by rw [aE (nown c b r)]; exact r) fun c xs r=>by rw [aE (ntup c xs r)]; exact r
   rcases hc with rfl | hc
   ·exact hbe
   ·rintro rfl;rcases he with z | z
    ·exact nown c b hc z
    ·rw [hc] at z; cases z; exact hb rfl
end

structure Un (fs ex:List S3) (H H':Hp) (h h':S5):Prop where
 keep:∀ b o,h.get? b=some o->H b=none->b∉fs->b∉ex->h'.get? b=some o
 slot:∀ b o,h.get? b=some o->H b=none->b∈fs->b∉ex->∃ sl,h'.get? b=some { o with slots:=sl }
 free:∀ b o,h.get? b=some o->H b=none->b∉ex->H' b=none
 there:∀ b o,h.get? b=some o->b∉ex->∃ o',h'.get? b=some o'
 tups:∀ b xs,H b=some (.tup xs)->H' b=some (.tup xs)
 frzs:∀ b o u,H b=some (.frz o u)->H' b=some (.frz o u)
 tbls:∀ b ps,H b=some (.tbl ps)->∃ more,H' b=some (.tbl (ps++more))
section
variable {fs fs' ex ex':List S3} {H H1 H2:Hp} {h h1 h2 h':S5} {a x e:S3} {o:HO}
theorem Un.any (u:Un fs ex H H1 h h1) {b:S3} {ob:Obj} (q:h.get? b=some ob) (n:H b=none) (hx:b∉ex):∃ sl,h1.get? b=some { ob with slots:=sl }:=by
 by_cases hb:b∈fs
 ·exact u.slot b ob q n hb hx
 ·exact⟨ob.slots,u.keep b ob q n hb hx⟩
theorem Un.kept (k:∀ b u,h.get? b=some u->h'.get? b=some u):Un fs ex H H h h' :=
 ⟨fun b ob q _ _ _=>k b ob q,fun b ob q _ _ _=>⟨ob.slots,k b ob q⟩,fun _ _ _ n _=>n,fun b ob q _=>⟨ob,k b ob q⟩,fun _ _ q=>q,fun _ _ _ q=>q,fun _ ps q=>⟨#[],by rw [q]; simp⟩⟩
theorem Un.refl:Un fs ex H H h h:=Un.kept fun _ _ q=>q
theorem Un.laid (k:∀ b u,h.get? b=some u->h'.get? b=some u) (hp:h.objs.size<=a) (hn:H a=none):Un fs ex H (upd H a o) h h' where
 keep:=fun b u q _ _ _=>k b u q
 slot:=fun b u q _ _ _=>⟨u.slots,k b u q⟩
 free:=fun b u q n _=>by rw [aE (O1 (OZ (Si q) hp))]; exact n
 there:=fun b u q _=>⟨u,k b u q⟩
 tups:=fun b xs q=>by rw [aE (bc q hn)]; exact q
 frzs:=fun b u xs q=>by rw [aE (bc q hn)]; exact q
 tbls:=fun b ps q=>⟨#[],by rw [aE (bc q hn),q]; simp⟩
theorem Un.write (mu:K9 (H x)) (he:e=x\/H e=some (.own x)) (k:∀ b u,b≠e->h.get? b=some u->h'.get? b=some u) (heo:∃ u,h'.get? e=some u):Un fs ex H (upd H x o) h h':=by
 have hx:∀ b,H b=none->b≠x:=fun b n z=>by subst z; rw [n] at mu; exact mu
 have hb:∀ b,H b=none->b≠e:=fun b n z=>by
  subst z;rcases he with r | r
  ·exact hx b n r
  ·rw [n] at r; cases r
 have hm:∀ b u,H b=some u->¬ K9 (some u)->b≠x:=fun b u q nm z=>by subst z; rw [q] at mu; exact nm mu
 refine⟨fun b u q n _ _=>k b u (hb b n) q,fun b u q n _ _=>⟨u.slots,k b u (hb b n) q⟩,fun b u q n _=>by rw [aE (hx b n)]; exact n,fun b u q _=>?_,
  fun b xs q=>by rw [aE (hm b _ q fun z=>z)]; exact q,fun b u xs q=>by rw [aE (hm b _ q fun z=>z)]; exact q,fun b ps q=>⟨#[],by rw [aE (hm b _ q fun z=>z),q]; simp⟩⟩
 by_cases hbe:b=e
 ·subst hbe; exact heo
 ·exact⟨u,k b u hbe q⟩
end

def LU (h:S5) (H:Hp):List S3:=(List.range h.objs.size).filter fun a=>(H a).isSome
def xx (h:S5) (H:Hp):S5:=PySem.W.hideAll h (LU h H)
theorem CN (h:S5) (H:Hp):(xx h H).objs.size=h.objs.size:=PySem.W.hideAll_size _ _
theorem tY {h:S5} {H:Hp} {b:S3} {o:Obj} (e:h.get? b=some o) (n:H b=none):(xx h H).get? b=some o :=
 PySem.W.hideAll_get _ e fun hm=>by
  have q:(H b).isSome=true:=(List.mem_filter.mp hm).2;rw [n] at q; simp at q
theorem GN {h:S5} {H:Hp} {b:S3} {o:Obj} (e:(xx h H).get? b=some o):h.get? b=some o/\H b=none:=by
 have e':h.get? b=some o:=PySem.W.of_hideAll (LU h H) e;refine⟨e',?_⟩;cases q:H b with
 | none=>rfl
 | some x =>
  have hm:b∈LU h H:=List.mem_filter.mpr ⟨List.mem_range.mpr (Si e'),by simp [q]⟩;have z:(xx h H).get? b=none:=PySem.W.hideAll_none (LU h H) hm;rw [z] at e; cases e

def G8 (g h:S5) (L:S3):List (S3×Obj):=(List.range h.objs.size).filterMap fun a=>if a=L\/(g.get? a).isSome=true then none else (h.get? a).map fun o=>(a,o)
def rest (g h:S5) (L d:S3):List (S3×Obj):=(G8 g h L).filter fun p=>decide (p.1≠d)
end L2

namespace L2
open PySem PySem.Spec PyProof.Rows

structure Mod (K:RL) (mg:Str->Option SY) (base:S5):Prop where
 kin:K.In base
 glob:base.Ns S8 mg
 blt:∃ mb,base.Ns S9 mb/\∀ x:Str,x ≠ "__name__"->mb x=Ta x
 nolimit:base.NoLimit

structure Cx where
 prog:S0
 w:SZ
 K:RL
 mg:Str->Option SY
 base:S5
 A:Tb
 N:List Str
 s₀:Tc
 H₀:Hp
 env:Env
 outer:List Env
 stack:List Env
 ex:List S3
 fn:Str->Bool
 calm:Bool
 pn:List (S3×Obj)
 xe:SY->Tc->Prop
def frs (l:List Env):List S3:=l.filterMap (·.frame)
abbrev Cx.fs (X:Cx):List S3:=frs X.outer

def HY (sc:Td) (x:Str):Prop:=sc.names.lookup x=some .local\/sc.names.lookup x=some .cell\/sc.names.lookup x=some .free
def Loc (sc:Td) (x:Str):Prop:=sc.names.lookup x=some .local\/sc.names.lookup x=some .cell
def Look (env:Env) (h:S5) (m:Str->Option SY) (x:Str) (u:SY):Prop :=
 (env.kindOf x=some .local/\m x=some u)\/((env.kindOf x=some .cell\/env.kindOf x=some .free)/\∃ c,env.cells.lookup x=some c/\h.IsCell c (some u))

structure Cx.Ok (X:Cx):Prop where
 mod:Mod X.K X.mg X.base
 kind:X.env.scope.kind=.function
 glob:X.env.globals=S8
 blt:X.env.builtins=S9
 above:X.s₀.heap.objs.size<=X.env.locals
 inj:∀ x y c,X.env.cells.lookup x=some c->X.env.cells.lookup y=some c->x=y
 has:∀ x,(X.env.kindOf x=some .cell\/X.env.kindOf x=some .free)->∃ c,X.env.cells.lookup x=some c
 cab:∀ x c,X.fn x=true->X.env.cells.lookup x=some c->X.s₀.heap.objs.size<=c
 hd:X.calm=true->X.A.handled=none
 frames:X.A.frames=some X.stack
 stk:X.stack=X.outer\/(X.stack=X.env::X.outer/\X.env.frame=some X.env.locals)
 exf:∀ b∈X.ex,b≠X.env.locals/\∀ x c,X.env.cells.lookup x=some c->c≠b
 bs:∀ b o,X.base.get? b=some o->X.s₀.heap.get? b=some o/\X.H₀ b=none
 bsz:X.base.objs.size<=X.s₀.heap.objs.size
 noex:∀ b o,X.base.get? b=some o->b∉X.ex
 exfs:∀ b∈X.ex,b∉X.fs
 funs:X.s₀.heap.FunFrames X.base X.outer
 frf:∀ b∈X.fs,X.H₀ b=none

structure Inv (X:Cx) (pins:List (S3×Obj)) (σ:List (Option V)) (H:Hp) (s:Tc):Prop where
 ok:X.Ok
 os:s.os=X.s₀.os
 bare:AllBare s.gens
 base:Un X.fs X.ex X.H₀ H X.s₀.heap s.heap
 loc:∃ m,s.heap.Ns X.env.locals m/\∀ (i:Nat) (x:Str) (v:V),X.N[i]?=some x->σ[i]?=some (some v)->HY X.env.scope x->∃ u,RelV v u/\Look X.env s.heap m x u
 cell:∀ x c,X.env.cells.lookup x=some c->∃ v,s.heap.IsCell c v
 free:H X.env.locals=none
 freeC:∀ x c,X.env.cells.lookup x=some c->H c=none
 pin:∀ p∈X.pn++pins,s.heap.get? p.1=some p.2/\H p.1=none/\p.1≠X.env.locals/\p.1∉X.fs/\∀ v,p.2.data≠.cell v
 hok:pA X.prog X.w H s.heap
 len:σ.length=X.N.length

section
variable {X:Cx} {pins:List (S3×Obj)} {σ:List (Option V)} {H H':Hp} {s:Tc} {h':S5}

theorem Cx.Ok.nofr (ok:X.Ok) {b:S3} {o:Obj} (e:X.base.get? b=some o):b∉X.fs:=fun hb=>by
 have:=(ok.funs.mem hb).1
 rw [e] at this; cases this
theorem Inv.bs (I:Inv X pins σ H s):∀ b o,X.base.get? b=some o->s.heap.get? b=some o/\H b=none:=fun b o e =>
 ⟨I.base.keep b o (I.ok.bs b o e).1 (I.ok.bs b o e).2 (I.ok.nofr e) (I.ok.noex b o e),I.base.free b o (I.ok.bs b o e).1 (I.ok.bs b o e).2 (I.ok.noex b o e)⟩
theorem Inv.bk (I:Inv X pins σ H s):∀ b o,X.base.get? b=some o->s.heap.get? b=some o:=fun b o e=>(I.bs b o e).1
theorem Inv.mod (I:Inv X pins σ H s):Mod X.K X.mg X.base:=I.ok.mod
theorem Inv.kIn (I:Inv X pins σ H s):X.K.In s.heap:=I.ok.mod.kin.keeps I.bk
theorem Inv.nolimit (I:Inv X pins σ H s):s.heap.NoLimit:=I.ok.mod.nolimit.keeps I.bk
theorem Inv.lt (I:Inv X pins σ H s):X.env.locals < s.heap.objs.size:=let ⟨_,hn,_⟩:=I.loc; hn.lt
theorem Inv.sz (I:Inv X pins σ H s):X.s₀.heap.objs.size<=s.heap.objs.size:=O2 I.ok.above (O3 I.lt)
theorem Inv.nofs (I:Inv X pins σ H s) {a:S3} (h:s.heap.objs.size<=a):a∉X.fs:=fun hb=>by
 obtain⟨_,o,ho,_⟩:=I.ok.funs.mem hb;exact absurd (OZ (Si ho) (O2 I.sz h)) (O0 _)
theorem Inv.cne (I:Inv X pins σ H s):∀ x c,X.env.cells.lookup x=some c->c≠X.env.locals:=fun x c e z=>by
 obtain⟨v,o,ho,hd⟩:=I.cell x c e;obtain⟨m,⟨o',es,ep,ho',hd',_⟩,_⟩:=I.loc;rw [z,ho'] at ho; cases ho; rw [hd'] at hd; cases hd
theorem Inv.funs (I:Inv X pins σ H s):s.heap.FunFrames X.base X.outer:=by
 have all:∀ (l:List Env),(∀ b∈frs l,b∈X.fs)->X.s₀.heap.FunFrames X.base l->s.heap.FunFrames X.base l:=by
  intro l
  induction l with
  | nil=>intro _ _; trivial
  | cons env r ih =>
   intro hs hl;obtain⟨hk,⟨L,o,hf,hn,ho,hd⟩,hr⟩:=hl;have hL:L∈X.fs:=hs L (by unfold frs; rw [O5,hf]; exact O6);obtain⟨sl,e⟩:=I.base.slot L o ho (I.ok.frf L hL) hL fun z=>I.ok.exfs L z hL;exact⟨hk,⟨L,_,hf,hn,e,hd⟩,ih (fun b hb=>hs b (by unfold frs; rw [O5,hf]; exact O7 _ hb)) hr⟩
 exact all X.outer (fun _ hb=>hb) I.ok.funs

theorem Inv.stack (I:Inv X pins σ H s):s.heap.FunFrames X.base X.stack:=by
 rcases I.ok.stk with e | ⟨e,hf⟩
 ·rw [e]; exact I.funs
 ·rw [e];obtain⟨m,hn,_⟩:=I.loc;refine .cons (by rw [I.ok.kind]; decide) hf hn ?_ I.funs;exact Sj (O2 I.ok.bsz I.ok.above)
theorem Inv.stkSub (I:Inv X pins σ H s):∀ b∈frs X.stack,b∈X.env.locals::X.fs:=fun b hb=>by
 rcases I.ok.stk with e | ⟨e,hf⟩
 ·rw [e] at hb; exact O7 _ hb
 ·rw [e] at hb;unfold frs at hb;rw [O5,hf] at hb;exact hb
theorem Inv.stkFree (I:Inv X pins σ H s):∀ b∈frs X.stack,H b=none:=fun b hb=>by
 rcases List.mem_cons.mp (I.stkSub b hb) with e | hb
 ·rw [e]; exact I.free
 ·obtain⟨_,o,ho,_⟩:=I.ok.funs.mem hb;exact I.base.free b o ho (I.ok.frf b hb) fun z=>I.ok.exfs b z hb

theorem Inv.step {g':Array GenState} {t':Nat} {d':Drawn} {ch:List S3} (I:Inv X pins σ H s)
  (hch:∀ b∈ch,(b∈X.ex\/X.s₀.heap.objs.size<=b)/\b≠X.env.locals/\(∀ x c,X.env.cells.lookup x=some c->c≠b)/\∀ p∈X.pn++pins,p.1≠b)
  (keep:∀ b o,b≠X.env.locals->b∉X.fs->b∉ch->s.heap.get? b=some o->H b=none->h'.get? b=some o)
  (slot:∀ b o,b≠X.env.locals->b∈X.fs->b∉ch->s.heap.get? b=some o->H b=none->∃ sl,h'.get? b=some { o with slots:=sl }) (free:∀ b o,b∉ch->s.heap.get? b=some o->H b=none->H' b=none)
  (there:∀ b o,b∉ch->s.heap.get? b=some o->∃ o',h'.get? b=some o')
  (tups:∀ b xs,H b=some (.tup xs)->H' b=some (.tup xs)) (frzs:∀ b o u,H b=some (.frz o u)->H' b=some (.frz o u)) (tbls:∀ b ps,H b=some (.tbl ps)->∃ more,H' b=some (.tbl (ps++more)))
  (ns:∀ m,s.heap.Ns X.env.locals m->h'.Ns X.env.locals m) (hok:pA X.prog X.w H' h') (hg:AllBare g') :
  Inv X pins σ H' { s with heap:=h',gens:=g',drawn:=d',toks:=t' }:=by
 have neL:∀ b o,X.s₀.heap.get? b=some o->b≠X.env.locals:=fun b o e=>O1 (OZ (Si e) I.ok.above);have neC:∀ b o,X.s₀.heap.get? b=some o->b∉X.ex->b∉ch:=fun b o e hx hb=>by
  rcases(hch b hb).1 with z | z
  ·exact hx z
  ·exact absurd (OZ (Si e) z) (O0 _)
 have cellK:∀ x c,X.env.cells.lookup x=some c->∀ v,s.heap.IsCell c v->h'.IsCell c v:=fun x c e v ⟨o,ho,hd⟩=>by
  have nch:c∉ch:=fun z=>(hch c z).2.2.1 x c e rfl;by_cases hc:c∈X.fs
  ·obtain⟨sl,q⟩:=slot c o (I.cne x c e) hc nch ho (I.freeC x c e);exact⟨_,q,hd⟩
  ·exact⟨o,keep c o (I.cne x c e) hc nch ho (I.freeC x c e),hd⟩
 refine⟨I.ok,I.os,hg,⟨fun b o e n hb hx=>?_,fun b o e n hb hx=>?_,fun b o e n hx=>?_,fun b o e hx=>?_,fun b xs e=>tups b xs (I.base.tups b xs e),fun b o xs e=>frzs b o xs (I.base.frzs b o xs e),fun b ps e=>?_⟩,?_,fun x c e=>?_,?_,fun x c e=>?_,fun p hp=>?_,hok,I.len⟩
 ·exact keep b o (neL b o e) hb (neC b o e hx) (I.base.keep b o e n hb hx) (I.base.free b o e n hx)
 ·obtain⟨sl,e1⟩:=I.base.slot b o e n hb hx;obtain⟨sl',e2⟩:=slot b _ (neL b o e) hb (neC b o e hx) e1 (I.base.free b o e n hx);exact⟨sl',e2⟩
 ·obtain⟨o',e1⟩:=I.base.there b o e hx;exact free b o' (neC b o e hx) e1 (I.base.free b o e n hx)
 ·obtain⟨o',e1⟩:=I.base.there b o e hx;exact there b o' (neC b o e hx) e1
 ·obtain⟨m1,e1⟩:=I.base.tbls b ps e;obtain⟨m2,e2⟩:=tbls b _ e1;exact⟨m1++m2,by rw [e2,Array.append_assoc]⟩
 ·obtain⟨m,hn,hl⟩:=I.loc;refine⟨m,ns m hn,fun i x v e1 e2 e3=>?_⟩;obtain⟨u,r,l⟩:=hl i x v e1 e2 e3;refine⟨u,r,?_⟩;rcases l with l | ⟨k,c,e,z⟩
  ·exact .inl l
  ·exact .inr ⟨k,c,e,cellK x c e _ z⟩
 ·obtain⟨v,z⟩:=I.cell x c e;exact⟨v,cellK x c e v z⟩
 ·obtain⟨m,⟨o,_,_,ho,_⟩,_⟩:=I.loc;exact free _ o (fun z=>(hch _ z).2.1 rfl) ho I.free
 ·obtain⟨v,o,ho,hd⟩:=I.cell x c e;exact free c o (fun z=>(hch c z).2.2.1 x c e rfl) ho (I.freeC x c e)
 ·obtain⟨e,n,ne,nf,d⟩:=I.pin p hp;have nch:p.1∉ch:=fun z=>(hch p.1 z).2.2.2 p hp rfl;exact⟨keep p.1 p.2 ne nf nch e n,free p.1 p.2 nch e n,ne,nf,d⟩
theorem Inv.un {t':Nat} (I:Inv X pins σ H s) (u:Un X.fs [] H H' s.heap h') (hok:pA X.prog X.w H' h'):Inv X pins σ H' { s with heap:=h',toks:=t' }:=by
 obtain⟨m,⟨o,es,ep,ho,r⟩,_⟩:=id I.loc;obtain⟨sl,hL⟩:=u.any ho I.free (by simp);exact I.step (g':=s.gens) (d':=s.drawn) (ch:=[]) (fun _ z=>nomatch z) (fun b o _ hb _ e n=>u.keep b o e n hb (by simp)) (fun b o _ hb _ e n=>u.slot b o e n hb (by simp)) (fun b o _ e n=>u.free b o e n (by simp)) (fun b o _ e=>u.there b o e (by simp)) u.tups u.frzs u.tbls (fun m' hm=>by
  obtain⟨o',es',ep',ho',r'⟩:=hm;rw [ho] at ho'; cases ho';exact⟨_,es',ep',hL,r'⟩) hok I.bare
theorem Inv.call {g':Array GenState} {t':Nat} {d':Drawn} {ch:List S3} (I:Inv X pins σ H s) (u:Un (frs X.stack) ch H H' s.heap h') (hok:pA X.prog X.w H' h') (hg:AllBare g')
  (hch:∀ b∈ch,(b∈X.ex\/X.s₀.heap.objs.size<=b)/\b≠X.env.locals/\(∀ x c,X.env.cells.lookup x=some c->c≠b)/\∀ p∈X.pn++pins,p.1≠b) :
  Inv X pins σ H' { s with heap:=h',gens:=g',drawn:=d',toks:=t' }:=by
 obtain⟨m,⟨o,es,ep,ho,r⟩,_⟩:=id I.loc;obtain⟨sl,hL⟩:=u.any ho I.free fun z=>(hch _ z).2.1 rfl;exact I.step (ch:=ch) hch (fun b o hL hb hc e n=>u.keep b o e n (fun z=>(List.mem_cons.mp (I.stkSub b z)).elim hL hb) hc) (fun b o _ _ hc e n=>u.any e n hc) (fun b o hc e n=>u.free b o e n hc) (fun b o hc e=>u.there b o e hc) u.tups u.frzs u.tbls (fun m' hm=>by
  obtain⟨o',es',ep',ho',r'⟩:=hm;rw [ho] at ho'; cases ho';exact⟨_,es',ep',hL,r'⟩) hok hg
theorem Inv.turned {t':Nat} {it:S3} (I:Inv X pins σ H s) (k:∀ b o,b≠it->s.heap.get? b=some o->h'.get? b=some o) (hn:H it=none) (hL:it≠X.env.locals)
  (h1:it∈X.ex\/X.s₀.heap.objs.size<=it) (h2:∀ x c,X.env.cells.lookup x=some c->c≠it) (h3:∀ p∈X.pn++pins,p.1≠it):Inv X pins σ H { s with heap:=h',toks:=t' }:=by
 have nit:∀ b u,H b=some u->b≠it:=fun b u e z=>by rw [z,hn] at e; cases e
 refine I.step (g':=s.gens) (d':=s.drawn) (ch:=[it]) (fun b hb=>?_) (fun b o _ _ hc e _=>k b o (fun z=>hc (by simp [z])) e) (fun b o _ _ hc e _=>⟨o.slots,k b o (fun z=>hc (by simp [z])) e⟩) (fun _ _ _ _ n=>n)
  (fun b o hc e=>⟨o,k b o (fun z=>hc (by simp [z])) e⟩) (fun _ _ e=>e) (fun _ _ _ e=>e) (fun b ps e=>⟨#[],by rw [e]; simp⟩) (fun m hm=>?_) (fun b u e=>?_) I.bare
 ·have e:b=it:=by simpa using hb
  subst e;exact⟨h1,hL,h2,h3⟩
 ·obtain⟨o,es,ep,ho,r⟩:=hm;exact⟨o,es,ep,k _ o (Ne.symm hL) ho,r⟩
 ·refine(I.hok b u e).stay (fun c v hc q=>k c v ?_ q) (fun _ q=>q) fun _ _ q=>q;rcases hc with z | z
  ·rw [z]; exact nit b u e
  ·exact nit c _ z
theorem Inv.tok (I:Inv X pins σ H s) (t:Nat):Inv X pins σ H { s with toks:=t }:=I.un (h':=s.heap) (t':=t) Un.refl I.hok
theorem Inv.kept {t':Nat} (I:Inv X pins σ H s) (k:∀ b u,s.heap.get? b=some u->h'.get? b=some u):Inv X pins σ H { s with heap:=h',toks:=t' }:=I.un (Un.kept k) (I.hok.kept k)
theorem Inv.laid {a:S3} {o:HO} {t':Nat} (I:Inv X pins σ H s) (k:∀ b u,s.heap.get? b=some u->h'.get? b=some u) (hp:s.heap.objs.size<=a) (new:cK X.prog X.w (upd H a o) h' a o) :
  Inv X pins σ (upd H a o) { s with heap:=h',toks:=t' }:=I.un (Un.laid k hp (I.hok.fresh hp)) (I.hok.laid k hp new)
theorem Inv.write {x e:S3} {o:HO} {t':Nat} (I:Inv X pins σ H s) (mu:K9 (H x)) (he:e=x\/H e=some (.own x)) (k:∀ b u,b≠e->s.heap.get? b=some u->h'.get? b=some u) (heo:∃ u,h'.get? e=some u)
  (new:cK X.prog X.w (upd H x o) h' x o):Inv X pins σ (upd H x o) { s with heap:=h',toks:=t' }:=I.un (Un.write mu he k heo) (I.hok.write mu he k heo new)
theorem Inv.pins_of {pins':List (S3×Obj)} (I:Inv X pins σ H s) (h:∀ p∈pins',s.heap.get? p.1=some p.2/\H p.1=none/\p.1≠X.env.locals/\p.1∉X.fs/\∀ v,p.2.data≠.cell v):Inv X pins' σ H s :=
 ⟨I.ok,I.os,I.bare,I.base,I.loc,I.cell,I.free,I.freeC,fun p hp=>(List.mem_append.mp hp).elim (fun z=>I.pin p (O8 _ z)) (h p),I.hok,I.len⟩

theorem yZ {N:List Str} (hN:N.Nodup) {i j:Nat} {x:Str} (a:N[i]?=some x) (b:N[j]?=some x):i=j:=by
 obtain⟨h1,e1⟩:=List.getElem?_eq_some_iff.mp a;obtain⟨h2,e2⟩:=List.getElem?_eq_some_iff.mp b;exact(List.getElem_inj hN).mp (e1.trans e2.symm)

theorem wg {M:Model} {A:Tb} {E:SY->Tc->Prop} {i:Nat} {x:Str} {v:V} {u:SY} {Q:Unit->Tc->Prop} (I:Inv X pins σ H s) (hN:X.N.Nodup) (hi:X.N[i]?=some x) (hx:Loc X.env.scope x) (r:RelV v u)
  (h:∀ s',Inv X pins (σ.set i (some v)) H s'->(∃ a,Sl a s.heap s'.heap/\(a=X.env.locals\/X.env.cells.lookup x=some a))->Q () s') (hf:X.fn x=true\/X.env.scope.names.lookup x=some .local:=by first | exact .inl rfl | exact .inr rfl | assumption):Te M A (storeName X.env x u) Q E s:=by
 obtain⟨m,hn,hl⟩:=id I.loc;have hcls:(X.env.scope.kind==.class || (X.env.scope.kind==.module && X.env.locals != X.env.globals))=false:=by rw [I.ok.kind]; rfl
 have hiσ:i < σ.length:=by rw [I.len]; exact(List.getElem?_eq_some_iff.mp hi).1
 have cne:=I.cne;have tracked:∀ {a:S3} {h':S5},(∃ o,s.heap.get? a=some o/\H a=none)->Sl a s.heap h'->pA X.prog X.w H h':=fun {a h'} ha hs b ob e=>by
  obtain⟨_,_,hfree⟩:=ha;refine(I.hok b ob e).stay (fun c w' hc q=>(hs.2 c ?_).trans q) (fun _ q=>q) fun _ _ q=>q;rintro rfl;rcases hc with rfl | hc
  ·rw [hfree] at e; cases e
  ·rw [hfree] at hc; cases hc
 rcases hx with hk | hk
 ·refine wpAny_storeName_local hk hn (fun h' hn' hs=>?_) hcls;obtain⟨oL,_,_,hoL,_⟩:=id hn;refine h _ ⟨I.ok,I.os,I.bare,⟨fun b o e n hb hx=>?_,fun b o e n hb hx=>?_,I.base.free,fun b o e hx=>?_,I.base.tups,I.base.frzs,I.base.tbls⟩,⟨_,hn',fun j y v' e1 e2 e3=>?_⟩,fun y c e=>?_,I.free,I.freeC,fun p hp=>?_,tracked ⟨oL,hoL,I.free⟩ hs,by simpa using I.len⟩ ⟨_,hs,.inl rfl⟩
  ·exact(hs.2 b (O1 (OZ (Si e) I.ok.above))).trans (I.base.keep b o e n hb hx)
  ·obtain⟨sl,e1⟩:=I.base.slot b o e n hb hx;exact⟨sl,(hs.2 b (O1 (OZ (Si e) I.ok.above))).trans e1⟩
  ·obtain⟨o',e1⟩:=I.base.there b o e hx;exact⟨o',(hs.2 b (O1 (OZ (Si e) I.ok.above))).trans e1⟩
  ·by_cases hj:j=i
   ·subst hj;rw [hi] at e1; cases e1;rw [O9 hiσ] at e2;cases e2;exact⟨u,r,.inl ⟨hk,by simp⟩⟩
   ·rw [Pa (Ne.symm hj)] at e2;obtain⟨u',r',q⟩:=hl j y v' e1 e2 e3;refine⟨u',r',?_⟩;rcases q with ⟨k,e⟩ | ⟨k,c,e,z⟩
    ·refine .inl ⟨k,?_⟩
     have:y≠x:=fun e=>hj (yZ hN e1 (e ▸ hi))
     simp [this,e]
    ·exact .inr ⟨k,c,e,z.sameBut hs (cne y c e)⟩
  ·obtain⟨w',z⟩:=I.cell y c e;exact⟨w',z.sameBut hs (cne y c e)⟩
  ·obtain⟨e,n,ne,nf,d⟩:=I.pin p hp;exact⟨(hs.2 p.1 ne).trans e,n,ne,nf,d⟩
 ·have hfn:X.fn x=true:=by
   rcases hf with z | z
   ·exact z
   ·rw [z] at hk; cases hk
  obtain⟨c,hc⟩:=I.ok.has x (.inl hk);obtain⟨w',z⟩:=I.cell x c hc;refine wpAny_storeName_cell I.ok.kind hk hc z (fun h' hc' hs=>?_);obtain⟨oc,hoc,hocd⟩:=id z;refine h { s with heap:=h' } ⟨I.ok,I.os,I.bare,⟨fun b o e n hb hx=>?_,fun b o e n hb hx=>?_,I.base.free,fun b o e hx=>?_,I.base.tups,I.base.frzs,I.base.tbls⟩,⟨m,hn.sameBut hs (Ne.symm (cne x c hc)),fun j y v' e1 e2 e3=>?_⟩,fun y c' e=>?_,I.free,I.freeC,fun p hp=>?_,tracked ⟨oc,hoc,I.freeC x c hc⟩ hs,by simpa using I.len⟩ ⟨c,hs,.inr hc⟩
  ·exact(hs.2 b (O1 (OZ (Si e) (I.ok.cab x c hfn hc)))).trans (I.base.keep b o e n hb hx)
  ·obtain⟨sl,e1⟩:=I.base.slot b o e n hb hx;exact⟨sl,(hs.2 b (O1 (OZ (Si e) (I.ok.cab x c hfn hc)))).trans e1⟩
  ·obtain⟨o',e1⟩:=I.base.there b o e hx;exact⟨o',(hs.2 b (O1 (OZ (Si e) (I.ok.cab x c hfn hc)))).trans e1⟩
  ·by_cases hj:j=i
   ·subst hj;rw [hi] at e1; cases e1;rw [O9 hiσ] at e2;cases e2;exact⟨u,r,.inr ⟨.inl hk,c,hc,hc'⟩⟩
   ·rw [Pa (Ne.symm hj)] at e2;obtain⟨u',r',q⟩:=hl j y v' e1 e2 e3;refine⟨u',r',?_⟩;rcases q with q | ⟨k,c',e,z'⟩
    ·exact .inl q
    ·refine .inr ⟨k,c',e,z'.sameBut hs ?_⟩;rintro rfl;exact hj (yZ hN e1 (I.ok.inj _ _ _ e hc ▸ hi))
  ·by_cases hcc:c'=c
   ·subst hcc; exact⟨_,hc'⟩
   ·obtain⟨w2,z2⟩:=I.cell y c' e;exact⟨w2,z2.sameBut hs hcc⟩
  ·obtain⟨e,n,ne,nf,d⟩:=I.pin p hp;refine⟨(hs.2 p.1 ?_).trans e,n,ne,nf,d⟩;intro q;rw [q,hoc] at e;have q':oc=p.2:=Option.some.inj e;exact d w' (by rw [<- q']; exact hocd)
theorem yX {M:Model} {A:Tb} {E:SY->Tc->Prop} {i:Nat} {x:Str} {v:V} {u:SY} {Q:Unit->Tc->Prop} (I:Inv X pins σ H s) (hN:X.N.Nodup) (hi:X.N[i]?=some x) (hx:Loc X.env.scope x) (r:RelV v u)
  (h:∀ s',Inv X pins (σ.set i (some v)) H s'->Q () s') (hf:X.fn x=true\/X.env.scope.names.lookup x=some .local:=by first | exact .inl rfl | exact .inr rfl | assumption):Te M A (storeName X.env x u) Q E s :=
 wg I hN hi hx r (fun s' I' _=>h s' I') hf
theorem Inv.call' {s':Tc} {ch:List S3} (I:Inv X pins σ H s) (ho:s'.os=s.os) (u:Un (frs X.stack) ch H H' s.heap s'.heap) (hok:pA X.prog X.w H' s'.heap) (hg:AllBare s'.gens)
  (hch:∀ b∈ch,(b∈X.ex\/X.s₀.heap.objs.size<=b)/\b≠X.env.locals/\(∀ x c,X.env.cells.lookup x=some c->c≠b)/\∀ p∈X.pn++pins,p.1≠b):Inv X pins σ H' s':=by
 obtain⟨h',g',d',t',o'⟩:=s';have e:o'=s.os:=ho;subst e;exact I.call (g':=g') (t':=t') (d':=d') u hok hg hch
end

abbrev XK:=SY->Option S3->Hp->Prop
abbrev St:=List (Option V)
abbrev VK:=V->Hp->Prop
abbrev TE:=St->Hp->VK->Prop
abbrev TT:=St->Hp->(Bool->Hp->Prop)->Prop
abbrev TA:=St->Hp->(List V->Hp->Prop)->Prop
structure Ends where
 nx:St->Hp->Prop
 rt:VK
 bk:St->Hp->Prop:=fun _ _=>False
 ct:St->Hp->Prop:=fun _ _=>False
abbrev TS:=Ends->St->Hp->Prop

def EP (X:Cx) (pins:List (S3×Obj)) (σ:St) (Q:VK) (u:SY) (s':Tc):Prop:=∃ v H',Inv X pins σ H' s'/\RelV v u/\Q v H'
def TP (X:Cx) (pins:List (S3×Obj)) (σ:St) (Q:Bool->Hp->Prop) (b:Bool) (s':Tc):Prop:=∃ H',Inv X pins σ H' s'/\Q b H'
def AP (X:Cx) (pins:List (S3×Obj)) (σ:St) (Q:List V->Hp->Prop) (us:List SY) (s':Tc):Prop:=∃ vs H',Inv X pins σ H' s'/\Vals vs us/\Q vs H'
def SP (X:Cx) (pins:List (S3×Obj)) (D:Ends) (f:Flow) (s':Tc):Prop :=
 match f with
 | .next=>∃ σ' H',Inv X pins σ' H' s'/\D.nx σ' H'
 | .brk=>∃ σ' H',Inv X pins σ' H' s'/\D.bk σ' H'
 | .cont=>∃ σ' H',Inv X pins σ' H' s'/\D.ct σ' H'
 | .ret u=>∃ v σ' H',Inv X pins σ' H' s'/\RelV v u/\D.rt v H'

def PE (X:Cx) (e:Tf) (t:TE):Prop :=
 ∀ (pins:List (S3×Obj)) (s:Tc) (σ:St) (H:Hp) (Q:VK),Inv X pins σ H s->t σ H Q->Te (model X.prog X.w) X.A (eval e X.env) (EP X pins σ Q) X.xe s
def PT (X:Cx) (e:Tf) (t:TT):Prop :=
 ∀ (pins:List (S3×Obj)) (s:Tc) (σ:St) (H:Hp) (Q:Bool->Hp->Prop),Inv X pins σ H s->t σ H Q->Te (model X.prog X.w) X.A (isTrue e X.env (eval e X.env)) (TP X pins σ Q) X.xe s
def PW (X:Cx) (e:Tf) (t:TT):Prop :=
 ∀ (whole:Sem SY) (pins:List (S3×Obj)) (s:Tc) (σ:St) (H:Hp) (Q:Bool->Hp->Prop),Inv X pins σ H s->t σ H Q->Te (model X.prog X.w) X.A (isTrue e X.env whole) (TP X pins σ Q) X.xe s
theorem PW.pt {X:Cx} {e:Tf} {t:TT} (h:PW X e t):PT X e t:=h _
def PA (X:Cx) (es:List Tf) (t:TA):Prop :=
 ∀ (pos:Pos) (pins:List (S3×Obj)) (s:Tc) (σ:St) (H:Hp) (Q:List V->Hp->Prop),Inv X pins σ H s->t σ H Q->Te (model X.prog X.w) X.A (spliced (backTo pos (Tg es X.env))) (AP X pins σ Q) X.xe s
def PS (X:Cx) (st:Th) (t:TS):Prop :=
 ∀ (pins:List (S3×Obj)) (s:Tc) (σ:St) (H:Hp) (D:Ends),Inv X pins σ H s->t D σ H->Te (model X.prog X.w) X.A (exec st X.env) (SP X pins D) X.xe s
def x6 (X:Cx) (st:List Th) (t:TS):Prop :=
 ∀ (pins:List (S3×Obj)) (s:Tc) (σ:St) (H:Hp) (D:Ends),Inv X pins σ H s->t D σ H->Te (model X.prog X.w) X.A (execs st X.env) (SP X pins D) X.xe s
theorem eZ {α:Type} {t:Sem α} {Q Q':α->Tc->Prop} {M:Model} {A:Tb} {E:SY->Tc->Prop} {s:Tc} (h:Te M A t Q E s) (hQ:∀ a s,Q a s->Q' a s):Te M A t Q' E s:=Ti h hQ fun _ _ x=>x
end L2

namespace L2
open PySem PySem.Spec PyProof.Rows
section
variable {X:Cx}

def ux (i:Nat):TE:=fun σ H Q=>∃ v,σ[i]?=some (some v)/\Q v H
def tC (v:V):TE:=fun _ H Q=>Q v H
theorem JF {i:Nat} {x:Str} {pos:Pos} (hN:X.N[i]?=some x) (hv:HY X.env.scope x) (hd:(x==("__debug__":Str))=false:=by decide) (hcd:(x==("__classdict__":Str))=false:=by decide):PE X (.Name x pos) (ux i):=by
 intro pins s σ H Q I h;obtain⟨v,e,h⟩:=h;obtain⟨m,hn,hl⟩:=I.loc;obtain⟨u,r,l⟩:=hl i x v hN e hv;have fin:EP X pins σ Q u s:=⟨v,H,I,r,h⟩
 rcases l with ⟨hk,hm⟩ | ⟨hk,c,hc,hcell⟩
 ·exact Tj (wpAny_loadName_local I.ok.kind hk hn hm fin) hd
 ·rcases hk with hk | hk
  ·exact Tj (wpAny_loadName_cell I.ok.kind hk hc hcell fin) hd
  ·exact Tj (wpAny_loadName_free I.ok.kind hk hc hcell fin hcd) hd
theorem Jw {i j pos}:PE X (.Constant (.int i) j pos) (tC (.int i)):=fun _ _ _ H _ I h=>wpAny_Constant_int ⟨.int i,H,I.tok _,⟨_,rfl⟩,h⟩
theorem Kg {b j pos}:PE X (.Constant (.bool b) j pos) (tC (.bl b)):=fun _ _ _ H _ I h=>Constant_bool ⟨.bl b,H,I,rfl,h⟩
theorem IX {x j pos}:PE X (.Constant (.str x) j pos) (tC (.str x)):=fun _ _ _ H _ I h=>Calls.Constant_str ⟨.str x,H,I.tok _,⟨_,rfl⟩,h⟩

def Gl (X:Cx) (x:Str):Prop:=X.env.kindOf x=some .globalImplicit
theorem xG {E:SY->Tc->Prop} {pins:List (S3×Obj)} {s:Tc} {σ:St} {H:Hp} {x:Str} {u:SY} {pos:Pos} {Q:SY->Tc->Prop} (I:Inv X pins σ H s) (hg:Gl X x) (hm:X.mg x=some u) (h:Q u s)
  (hd:(x==("__debug__":Str))=false:=by decide):Te (model X.prog X.w) X.A (eval (.Name x pos) X.env) Q E s :=
 Calls.Name_function_global I.ok.kind hg (Calls.loadGlobal_global (by rw [I.ok.glob]; exact I.mod.glob.keeps I.bk) hm h) hd
theorem mU {E:SY->Tc->Prop} {pins:List (S3×Obj)} {s:Tc} {σ:St} {H:Hp} {x:Str} {u:SY} {pos:Pos} {Q:SY->Tc->Prop} (I:Inv X pins σ H s) (hg:Gl X x) (hm:X.mg x=none) (hv:Ta x=some u) (h:Q u s)
  (hn:x ≠ "__name__":=by decide) (hd:(x==("__debug__":Str))=false:=by decide):Te (model X.prog X.w) X.A (eval (.Name x pos) X.env) Q E s:=by
 obtain⟨mb,h1,h2⟩:=I.mod.blt;exact Calls.Name_function_global I.ok.kind hg (Calls.loadGlobal_builtin (by rw [I.ok.glob]; exact I.mod.glob.keeps I.bk) hm (by rw [I.ok.blt]; exact h1.keeps I.bk) ((h2 x hn).trans hv) h) hd
theorem FP {x:Str} {v:V} {u:SY} {pos:Pos} (hg:Gl X x) (hm:X.mg x=some u) (r:RelV v u) (hd:(x==("__debug__":Str))=false:=by decide):PE X (.Name x pos) (tC v) :=
 fun _ _ _ H _ I h=>xG I hg hm ⟨v,H,I,r,h⟩ hd
theorem Hg {x:Str} {v:V} {u:SY} {pos:Pos} (hg:Gl X x) (hm:X.mg x=none) (hv:Ta x=some u) (r:RelV v u) (hn:x ≠ "__name__":=by decide) (hd:(x==("__debug__":Str))=false:=by decide):PE X (.Name x pos) (tC v) :=
 fun _ _ _ H _ I h=>mU I hg hm hv ⟨v,H,I,r,h⟩ hn hd

variable {a b:Tf} {ta tb:TE} {pos:Pos}
variable {tA tB':TT} {rest:List Tf}
def OJ (t u:TT):TT:=fun σ H Q=>t σ H fun c H1=>if c=true then Q true H1 else u σ H1 Q
def NU (t:TT):TT:=fun σ H Q=>t σ H fun c H1=>Q (!c) H1
theorem Im (ha:PT X a tA):PW X (.BoolOp .Or [a] pos) tA:=by
 intro wh pins s σ H Q I h;refine isTrue_or (eZ (ha pins s σ H Q I h) fun c s1 e=>?_);cases c with
 | false=>exact isTrue_or_nil e
 | true=>exact e
theorem J5 (ha:PT X a tA) (hb:PW X (.BoolOp .Or (b::rest) pos) tB'):PW X (.BoolOp .Or (a::b::rest) pos) (OJ tA tB'):=by
 intro wh pins s σ H Q I h;refine isTrue_or (eZ (ha pins s σ H _ I h) fun c s1 ⟨H1,I1,q1⟩=>?_);cases c with
 | true=>exact⟨H1,I1,q1⟩
 | false=>exact hb wh pins s1 σ H1 Q I1 q1
theorem IH (ha:PT X a tA):PT X (.UnaryOp .Not a pos) (NU tA):=by
 intro pins s σ H Q I h;exact isTrue_not (ha pins s σ H (fun c H1=>Q (!c) H1) I h)
def Ko (ta tb:TE):TE:=fun σ H Q=>ta σ H fun x H1=>∃ c,x=.bl c/\if c=true then tb σ H1 Q else Q (.bl false) H1
def Kc (ta:TE):TE:=fun σ H Q=>ta σ H fun x H1=>∃ c,x=.bl c/\Q (.bl (!c)) H1
theorem II {op} {t:TE} (h:PE X a t):PE X (.BoolOp op [a] pos) t:=fun pins s σ H Q I hw=>BoolOp_one (h pins s σ H Q I hw)
theorem IM (ha:PE X a ta) (hb:PE X (.BoolOp .And (b::rest) pos) tb):PE X (.BoolOp .And (a::b::rest) pos) (Ko ta tb):=by
 intro pins s σ H Q I h;refine BoolOp_and (eZ (ha pins s σ H _ I h) fun v s1 ⟨x,H1,I1,r1,q1⟩=>?_);obtain⟨c,rfl,q1⟩:=q1;cases r1;refine Tl ?_;cases c with
 | true=>exact hb pins s1 σ H1 Q I1 q1
 | false=>exact⟨.bl false,H1,I1,rfl,q1⟩
theorem Ih (ha:PE X a ta):PE X (.UnaryOp .Not a pos) (Kc ta):=by
 intro pins s σ H Q I h;refine UnaryOp_ (eZ (ha pins s σ H _ I h) fun v s1 ⟨x,H1,I1,r1,q1⟩=>?_);obtain⟨c,rfl,q1⟩:=q1;cases r1;exact not_of (Tl ⟨.bl (!c),H1,I1,rfl,q1⟩)
end
end L2

namespace L2
open PySem PySem.Spec PyProof.Rows

def oZ (K:RL) (H:Hp) (a:S3) (xs:List V):Prop :=
 Rd H a (.lst xs) \/
  ∃ (o:Obj) (its:Array SY) (n:Nat),K.lookup a=some o/\o.cls=.type "list"/\o.dict=none/\o.data=.seq its n/\its.size<=S6/\Vals xs its.toList
def p8 (K:RL) (H:Hp) (a:S3) (xs:List V):Prop :=
 Rd H a (.tup xs) \/
  ∃ (o:Obj) (its:Array SY) (n:Nat),K.lookup a=some o/\o.cls=.type "tuple"/\o.data=.seq its n/\its.size<=S6/\Vals xs its.toList
def N7:SY->Option V
 | .none=>some .non
 | .bool b=>some (.bl b)
 | .int i _=>some (.int i)
 | .str x _=>some (.str x)
 | .bytes b _=>some (.byt b)
 | .float b _=>some (.flt b)
 | .ref a=>some (.ref a)
 | .type n=>some (.ty n)
 | _=>none
theorem RelV.abs {x:V} {u:SY} (r:RelV x u):N7 u=some x:=by
 cases x with
 | non=>cases r; rfl
 | bl _=>cases r; rfl
 | int _=>obtain⟨t,rfl⟩:=r; rfl
 | str _=>obtain⟨t,rfl⟩:=r; rfl
 | byt _=>obtain⟨t,rfl⟩:=r; rfl
 | flt _=>obtain⟨t,rfl⟩:=r; rfl
 | ref _=>cases r; rfl
 | ty _=>cases r; rfl
theorem RelV.inj {x y:V} {u:SY} (r:RelV x u) (q:RelV y u):x=y:=Option.some.inj (r.abs.symm.trans q.abs)
theorem Vals.inj:∀ {xs ys:List V} {us:List SY},Vals xs us->Vals ys us->xs=ys
 | _,_,_,.nil,.nil=>rfl
 | _,_,_,.cons r t,.cons r' t'=>by rw [r.inj r',Vals.inj t t']
section
variable {X:Cx} {pins:List (S3×Obj)} {σ:St} {H:Hp} {s:Tc} {a:S3} {xs ys:List V}
theorem oZ.of {K:RL} (h:H a=some (.lst xs)):oZ K H a xs:=.inl (.inl h)
theorem p8.of {K:RL} (h:H a=some (.tup xs)):p8 K H a xs:=.inl (.inl h)
theorem Inv.list (I:Inv X pins σ H s) (h:oZ X.K H a xs):∃ its:List SY,Vals xs its/\PlainL s.heap a its.toArray/\xs.length<=S6:=by
 rcases h with h | ⟨o,its,n,hk,hc,hd,hs,hz,r⟩
 ·obtain⟨z,its,n,r,e⟩:=h.ok I.hok;exact⟨its,r,⟨_,n,e,rfl,rfl,rfl⟩,z⟩
 ·refine⟨its.toList,r,⟨o,n,I.kIn a o hk,hc,hd,by simpa using hs⟩,?_⟩;have e:=r.length;simp only [Array.length_toList] at e;omega
theorem Inv.tuple (I:Inv X pins σ H s) (h:p8 X.K H a xs):∃ its:List SY,Vals xs its/\S7 s.heap a its.toArray/\xs.length<=S6:=by
 rcases h with h | ⟨o,its,n,hk,hc,hs,hz,r⟩
 ·obtain⟨z,its,r,p⟩:=h.ok I.hok;exact⟨its,r,p,z⟩
 ·refine⟨its.toList,r,⟨o,I.kIn a o hk,hc,n,by simpa using hs⟩,?_⟩;have e:=r.length;simp only [Array.length_toList] at e;omega
theorem Inv.list_inj (I:Inv X pins σ H s) (h:oZ X.K H a xs) (h':oZ X.K H a ys):xs=ys:=by
 obtain⟨its,r,⟨o,n,e,_,_,d⟩,_⟩:=I.list h;obtain⟨its',r',⟨o',n',e',_,_,d'⟩,_⟩:=I.list h';rw [e] at e'; cases e';rw [d] at d';injection d' with d1 _
 have:its=its':=by simpa using congrArg Array.toList d1
 subst this;exact r.inj r'
theorem Inv.tuple_inj (I:Inv X pins σ H s) (h:p8 X.K H a xs) (h':p8 X.K H a ys):xs=ys:=by
 obtain⟨its,r,⟨o,e,_,n,d⟩,_⟩:=I.tuple h;obtain⟨its',r',⟨o',e',_,n',d'⟩,_⟩:=I.tuple h';rw [e] at e'; cases e';rw [d] at d';injection d' with d1 _
 have:its=its':=by simpa using congrArg Array.toList d1
 subst this;exact r.inj r'
end

abbrev Cx.wish (X:Cx) (E:SY->Tc->Prop):Cx:={ X with xe:=E }
abbrev Cx.nox (X:Cx):Cx:=X.wish fun _ _=>False
theorem Cx.Ok.wish {X:Cx} (ok:X.Ok) (E:SY->Tc->Prop):(X.wish E).Ok :=
 ⟨ok.mod,ok.kind,ok.glob,ok.blt,ok.above,ok.inj,ok.has,ok.cab,ok.hd,ok.frames,ok.stk,ok.exf,ok.bs,ok.bsz,ok.noex,ok.exfs,ok.funs,ok.frf⟩
theorem Cx.Ok.unwish {X:Cx} {E:SY->Tc->Prop} (ok:(X.wish E).Ok):X.Ok :=
 ⟨ok.mod,ok.kind,ok.glob,ok.blt,ok.above,ok.inj,ok.has,ok.cab,ok.hd,ok.frames,ok.stk,ok.exf,ok.bs,ok.bsz,ok.noex,ok.exfs,ok.funs,ok.frf⟩
section
variable {X:Cx} {pins:List (S3×Obj)} {σ:St} {H:Hp} {s:Tc} {E:SY->Tc->Prop}
theorem Inv.wish (I:Inv X pins σ H s) (E:SY->Tc->Prop):Inv (X.wish E) pins σ H s:=⟨I.ok.wish E,I.os,I.bare,I.base,I.loc,I.cell,I.free,I.freeC,I.pin,I.hok,I.len⟩
theorem Inv.unwish (I:Inv (X.wish E) pins σ H s):Inv X pins σ H s:=⟨I.ok.unwish,I.os,I.bare,I.base,I.loc,I.cell,I.free,I.freeC,I.pin,I.hok,I.len⟩
theorem SP.unwish {D:Ends} {f:Flow} {s':Tc} (h:SP (X.wish E) pins D f s'):SP X pins D f s':=by
 cases f with
 | next=>obtain⟨σ',H',I,q⟩:=h; exact⟨σ',H',I.unwish,q⟩
 | brk=>obtain⟨σ',H',I,q⟩:=h; exact⟨σ',H',I.unwish,q⟩
 | cont=>obtain⟨σ',H',I,q⟩:=h; exact⟨σ',H',I.unwish,q⟩
 | ret u=>obtain⟨v,σ',H',I,r,q⟩:=h; exact⟨v,σ',H',I.unwish,r,q⟩
theorem x6.nox {st:List Th} {t:TS} (h:x6 X.nox st t):x6 X st t:=fun pins s σ H D I hw =>
 Ti (h pins s σ H D (I.wish _) hw) (fun _ _ q=>q.unwish) fun _ _ z=>False.elim z
end

section
variable {X:Cx} {st:Th} {rest:List Th} {t u:TS} {e:Tf} {te:TE} {pos:Pos}
def J9:TS:=fun D σ H=>D.nx σ H
def NA (t u:TS):TS:=fun D σ H=>t { D with nx:=u D } σ H
theorem G9:x6 X [] J9:=fun _ _ σ H _ I h=>Tn ⟨σ,H,I,h⟩
theorem EB (h1:PS X st t) (h2:x6 X rest u):x6 X (st::rest) (NA t u):=by
 intro pins s σ H D I h;refine wpAny_execs_cons (eZ (h1 pins s σ H { D with nx:=u D } I h) fun f s1 q=>?_);cases f with
 | next =>
  obtain⟨σ',H',I',q⟩:=q;exact h2 pins s1 σ' H' D I' q
 | ret v=>exact q
 | brk=>exact q
 | cont=>exact q
theorem Bl (h1:PS X st t):x6 X [st] t:=by
 intro pins s σ H D I h;refine wpAny_execs_cons (eZ (h1 pins s σ H D I h) fun f s1 q=>?_);cases f with
 | next=>exact Tn q
 | ret v=>exact q
 | brk=>exact q
 | cont=>exact q
theorem Inv.quiet {pins:List (S3×Obj)} {σ:St} {H:Hp} {s:Tc} (I:Inv X pins σ H s):interactive X.env=false:=by simp [interactive,I.ok.kind]
def Kq (te:TE):TS:=fun D σ H=>te σ H fun _ H1=>D.nx σ H1
theorem wI (he:PE X e te) (hs:swapsWith e none pos.line X.env=pure false:=by rfl):PS X (.Expr e pos) (Kq te):=by
 intro pins s σ H D I h;exact wpAny_Expr_any (eZ (he pins s σ H _ I h) fun v s1 ⟨x,H1,I1,r1,q1⟩=>⟨σ,H1,I1,q1⟩) I.quiet hs
def Nq (te:TE):TS:=fun D σ H=>te σ H D.rt
theorem Js (he:PE X e te):PS X (.Return (some e) pos) (Nq te):=by
 intro pins s σ H D I h;exact wpAny_Return_some (eZ (he pins s σ H _ I h) fun v s1 ⟨x,H1,I1,r1,q1⟩=>⟨x,σ,H1,I1,r1,q1⟩)
def Mp (c:TT) (t u:TS):TS:=fun D σ H=>c σ H fun b H1=>if b=true then t D σ H1 else u D σ H1
theorem K1 {c:Tf} {a b:List Th} {tc:TT} (hc:PT X c tc) (ha:x6 X a t) (hb:x6 X b u):PS X (.If c a b pos) (Mp tc t u):=by
 intro pins s σ H D I h;refine wpAny_If (eZ (hc pins s σ H _ I h) fun d s1 ⟨H1,I1,q1⟩=>?_);cases d with
 | true=>exact ha pins s1 σ H1 D I1 q1
 | false=>exact hb pins s1 σ H1 D I1 q1
end

abbrev TG:=V->St->Hp->(St->Hp->Prop)->Prop
abbrev HG:=List V->St->Hp->(St->Hp->Prop)->Prop
def PG (X:Cx) (target:Tf) (t:TG):Prop :=
 ∀ (pins:List (S3×Obj)) (s:Tc) (σ:St) (H:Hp) (v:V) (u:SY) (Q:St->Hp->Prop),Inv X pins σ H s->RelV v u->t v σ H Q ->
  Te (model X.prog X.w) X.A (assign target X.env u) (fun _ s'=>∃ σ' H',Inv X pins σ' H' s'/\Q σ' H') X.xe s
def KP (X:Cx) (ts:List Tf) (t:HG):Prop :=
 ∀ (pins:List (S3×Obj)) (s:Tc) (σ:St) (H:Hp) (vs:List V) (us:List SY) (Q:St->Hp->Prop),Inv X pins σ H s->Vals vs us->t vs σ H Q ->
  Te (model X.prog X.w) X.A (assignInOrder ((assignEach ts X.env).map (·.2)) us) (fun _ s'=>∃ σ' H',Inv X pins σ' H' s'/\Q σ' H') X.xe s
section
variable {X:Cx} {pos:Pos}
def vy (i:Nat):TG:=fun v σ H Q=>Q (σ.set i (some v)) H
theorem Hq {i:Nat} {x:Str} (hN:X.N.Nodup) (hi:X.N[i]?=some x) (hx:Loc X.env.scope x) (hf:X.fn x=true\/X.env.scope.names.lookup x=some .local:=by first | exact .inl rfl | exact .inr rfl | assumption):PG X (.Name x pos) (vy i):=by
 intro pins s σ H v u Q I r h;exact wpAny_assign_Name (yX I hN hi hx r (fun s' I'=>⟨_,H,I',h⟩) hf)
def NX:HG:=fun vs σ H Q=>vs=[]/\Q σ H
def Le (t:TG) (u:HG):HG:=fun vs σ H Q=>∃ v r,vs=v::r/\t v σ H fun σ' H'=>u r σ' H' Q
theorem FH:KP X [] NX:=by
 intro pins s σ H vs us Q I r h;obtain⟨e,h⟩:=h;subst e;cases r;exact assignInOrder_nil ⟨σ,H,I,h⟩
theorem D9 {e:Tf} {es:List Tf} {t:TG} {u:HG} (h1:PG X e t) (h2:KP X es u)
  (hs:(assignEach (e::es) X.env).map (·.2)=assign e X.env::(assignEach es X.env).map (·.2):=by rfl):KP X (e::es) (Le t u):=by
 intro pins s σ H vs us Q I r h;obtain⟨v,vr,e1,h⟩:=h;subst e1;cases r with
 | cons r rr =>
  rw [hs];refine assignInOrder_cons (eZ (h1 pins s σ H _ _ _ I r h) fun _ s1 ⟨σ1,H1,I1,q1⟩=>?_);exact h2 pins s1 σ1 H1 _ _ Q I1 rr q1
def NY (K:RL) (n:Nat) (t:HG):TG:=fun v σ H Q=>∃ a xs,v=.ref a/\p8 K H a xs/\xs.length=n/\t xs σ H Q
theorem Ju {es:List Tf} {k:Nat} {t:HG} {n:Nat} (hc:X.calm=true) (h:KP X es t)
  (hn:(assignEach es X.env).length=n:=by rfl) (hst:(assignEach es X.env).findIdx? (·.1)=none:=by rfl):PG X (.Tuple es k pos) (NY X.K n t):=by
 intro pins s σ H v u Q I r hw;obtain⟨a,xs,e1,hq,hl,hw⟩:=hw;subst e1;cases r;obtain⟨its,rv,ht,hz⟩:=I.tuple hq;refine assign_Tuple_tuple (I.ok.hd hc) ht (by simp [hn,<- hl,rv.length]) hst fun h' hx=>?_;have I1:Inv X pins σ H { s with heap:=h' }:=I.kept (t':=s.toks) fun b o e=>hx b o (O1 (Si e)) e;exact h pins _ σ H xs _ Q I1 (by simpa using rv) hw
def GH (te:TE) (g:TG):TS:=fun D σ H=>te σ H fun x H1=>g x σ H1 D.nx
theorem As {i:Nat} {x:Str} {e:Tf} {te:TE} {pos':Pos} (hN:X.N.Nodup) (hi:X.N[i]?=some x) (hx:Loc X.env.scope x) (he:PE X e te) (hs:swapsWith e (some (.Name x pos')) pos.line X.env=pure false:=by rfl) (hf:X.fn x=true\/X.env.scope.names.lookup x=some .local:=by first | exact .inl rfl | exact .inr rfl | assumption) :
  PS X (.Assign [.Name x pos'] e pos) (GH te (vy i)):=by
 intro pins s σ H D I h;refine wpAny_Assign_Name (eZ (he pins s σ H _ I h) fun v s1 ⟨y,H1,I1,r1,q1⟩=>?_) hs;exact yX I1 hN hi hx r1 (fun s2 I2=>⟨_,H1,I2,q1⟩) hf
end


structure It where
 go:Nat->Hp->Prop
 yld:Nat->Hp->V->Hp->Prop
 stop:Nat->Hp->Prop
def uI (X:Cx) (pins:List (S3×Obj)) (H:Hp) (b:S3):Prop :=
 H b=none/\b≠X.env.locals/\b∉X.fs/\(b∈X.ex\/X.s₀.heap.objs.size<=b)/\(∀ x c,X.env.cells.lookup x=some c->c≠b)/\∀ p∈X.pn++pins,p.1≠b
theorem Inv.fpOk {X:Cx} {pins:List (S3×Obj)} {σ:St} {H H':Hp} {s:Tc} {b:S3} (I:Inv X pins σ H s) (hb:s.heap.objs.size<=b) (hn:H' b=none):uI X pins H' b:=by
 refine⟨hn,Pb (OZ I.lt hb),I.nofs hb,.inr (O2 I.sz hb),fun x c e z=>?_,fun p hp z=>?_⟩
 ·obtain⟨v,q⟩:=I.cell x c e;exact absurd (OZ q.lt (by rw [z]; exact hb)) (O0 _)
 ·exact absurd (OZ (Si (I.pin p hp).1) (by rw [z]; exact hb)) (O0 _)
structure Turn (P:S0) (w:SZ) (K:RL) (tg:Tf) (J:It) (fp:List S3) (it:S3) (tn:Nat->S5->Prop):Prop where
 mem:it∈fp
 obj:∀ i h,tn i h->∀ b∈fp,∃ o,h.get? b=some o/\∀ v,o.data≠.cell v
 keep:∀ i h h',tn i h->(∀ b∈fp,∀ o,h.get? b=some o->h'.get? b=some o)->tn i h'
 item:∀ (X:Cx),X.prog=P->X.w=w->X.K=K->X.calm=true->∀ (i:Nat) (pins:List (S3×Obj)) (s:Tc) (σ:St) (H:Hp) (E:SY->Tc->Prop),Inv X pins σ H s->(∀ b∈fp,uI X pins H b)->tn i s.heap->J.go i H ->
  Te (model P w) X.A (pyNext (.ref it)) (fun r s1=>∃ u,r=some u /\
   Te (model P w) X.A (letOwnedTupleGo tg (.ref it) u) (fun _ s2=>∃ x H',Inv X pins σ H' s2/\RelV x u/\J.yld i H x H'/\tn (i+1) s2.heap/\∀ b∈fp,H' b=none) E s1) E s
 done:∀ (X:Cx),X.prog=P->X.w=w->X.K=K->X.calm=true->∀ (i:Nat) (pins:List (S3×Obj)) (s:Tc) (σ:St) (H:Hp) (E:SY->Tc->Prop),Inv X pins σ H s->(∀ b∈fp,uI X pins H b)->tn i s.heap->J.stop i H ->
  Te (model P w) X.A (pyNext (.ref it)) (fun r s1=>r=none/\Inv X pins σ H s1) E s
 self:∀ (A:Tb) (i:Nat) (s:Tc) (Q:SY->Tc->Prop) (E:SY->Tc->Prop),tn i s.heap->Q (.ref it) s->Te (model P w) A (pyIter (.ref it)) Q E s
abbrev TI:=St->Hp->(It->Hp->Prop)->Prop
def PIE (X:Cx) (pins:List (S3×Obj)) (σ:St) (tg:Tf) (R:It->Hp->Prop) (itv:SY) (s2:Tc):Prop :=
 ∃ (it:S3) (fp:List S3) (tn:Nat->S5->Prop) (J:It) (H':Hp),itv=.ref it/\Inv X pins σ H' s2/\Turn X.prog X.w X.K tg J fp it tn/\tn 0 s2.heap/\(∀ b∈fp,uI X pins H' b)/\R J H'
def PI (X:Cx) (tg iter:Tf) (wi:TI):Prop :=
 ∀ (pins:List (S3×Obj)) (s:Tc) (σ:St) (H:Hp) (R:It->Hp->Prop),Inv X pins σ H s->wi σ H R ->
  Te (model X.prog X.w) X.A (eval iter X.env) (fun v s1=>Te (model X.prog X.w) X.A (pyIter v) (PIE X pins σ tg R) X.xe s1) X.xe s

theorem Dv {M:Model} {A:Tb} {E:SY->Tc->Prop} {s:Tc} {tg:Tf} {it:S3} {u:SY} {o:Obj} {n:String} {vs:Array SY} {Q:Unit->Tc->Prop} (ho:s.heap.get? it=some o) (hc:o.cls=.type n) (hd:o.data=.fields vs)
    (hn:["enumerate","zip","dict_itemiterator","dict_reverseitemiterator","odict_iterator","itertools.zip_longest","itertools.pairwise"].contains n=false) (hQ:Q () s):Te M A (letOwnedTupleGo tg (.ref it) u) Q E s:=by
  unfold letOwnedTupleGo;cases tg <;> first
    | exact To hQ
    | (cases u <;> first
        | exact To hQ
        | (refine Tp (wpAny_load ho ?_)
           rw [hc,hd];show Te M A (if (["enumerate","zip","dict_itemiterator","dict_reverseitemiterator","odict_iterator","itertools.zip_longest","itertools.pairwise"].contains n && vs[0]?==some (rawInt _))=true then _ else _) Q E s;rw [if_neg (by intro h; rw [hn,Bool.false_and] at h; cases h)];exact To hQ))

def N5 (K:RL) (a:S3):It :=
 ⟨fun i H=>∃ xs x,oZ K H a xs/\xs[i]?=some x,fun i H x H'=>H'=H/\∀ xs,oZ K H a xs->xs[i]?=some x,fun i H=>∃ xs,oZ K H a xs/\xs.length<=i⟩
def Nf (K:RL) (a:S3):It :=
 ⟨fun i H=>∃ xs x,p8 K H a xs/\xs[i]?=some x,fun i H x H'=>H'=H/\∀ xs,p8 K H a xs->xs[i]?=some x,fun i H=>∃ xs,p8 K H a xs/\xs.length<=i⟩
def Lb (lo:Int) (n:Nat):It:=⟨fun i _=>i < n,fun i H x H'=>H'=H/\x=.int (lo+i),fun i _=>n<=i⟩
theorem BX {P:S0} {w:SZ} {K:RL} {tg:Tf} (a it:S3):Turn P w K tg (N5 K a) [it] it (fun i h=>h.IsListIter it a i) where
 mem:=by simp
 obj:=fun i h st b hb=>by
  have e:b=it:=by simpa using hb
  subst e;obtain⟨o,e,c,d⟩:=st;exact⟨o,e,fun v z=>by rw [d] at z; cases z⟩
 keep:=fun i h h' st k=>st.at fun o e=>k it (by simp) o e
 item:=by
  intro X hP hw hK hc i pins s σ H E I hf st hg;subst hP hw hK;obtain⟨xs,x,hq,hx⟩:=hg;obtain⟨its,rv,p,hz⟩:=I.list hq;obtain⟨u,hu,ru⟩:=rv.get hx;obtain⟨f0,f1,f2,f3,f4,f5⟩:=hf it (by simp);refine wpAny_pyNext_list_item st p.isList (x:=u) (by simpa using hu) fun h' st' sb=>?_;have I1:Inv X pins σ H { s with heap:=h' }:=I.turned (t':=s.toks) (fun b o hb e=>(sb.2 b hb).trans e) f0 f1 f3 f4 f5;obtain⟨o,e,c,d⟩:=id st';exact⟨u,rfl,Dv (s:={ s with heap:=h' }) e c d (by decide) ⟨x,H,I1,ru,⟨rfl,fun ys hy=>by rw [I.list_inj hy hq]; exact hx⟩,st',fun b hb=>(hf b hb).1⟩⟩
 done:=by
  intro X hP hw hK hc i pins s σ H E I hf st hg;subst hP hw hK;obtain⟨xs,hq,hx⟩:=hg;obtain⟨its,rv,p,hz⟩:=I.list hq;obtain⟨f0,f1,f2,f3,f4,f5⟩:=hf it (by simp);have hl:=rv.length;exact wpAny_pyNext_list_end (I.ok.hd hc) st p.isList (by simp; omega) fun h' eb=>⟨rfl,I.turned (t':=s.toks) (fun b o hb e=>eb b o hb e) f0 f1 f3 f4 f5⟩
 self:=fun _ _ _ _ _ st h=>wpAny_pyIter_listiter st h
theorem zE {P:S0} {w:SZ} {K:RL} {tg:Tf} (a it:S3):Turn P w K tg (Nf K a) [it] it (fun i h=>h.IsTupleIter it a i) where
 mem:=by simp
 obj:=fun i h st b hb=>by
  have e:b=it:=by simpa using hb
  subst e;obtain⟨o,e,c,d⟩:=st;exact⟨o,e,fun v z=>by rw [d] at z; cases z⟩
 keep:=fun i h h' st k=>st.at fun o e=>k it (by simp) o e
 item:=by
  intro X hP hw hK hc i pins s σ H E I hf st hg;subst hP hw hK;obtain⟨xs,x,hq,hx⟩:=hg;obtain⟨its,rv,p,hz⟩:=I.tuple hq;obtain⟨u,hu,ru⟩:=rv.get hx;obtain⟨f0,f1,f2,f3,f4,f5⟩:=hf it (by simp);refine wpAny_pyNext_tuple_item st (show s.heap.IsTuple a its.toArray from p) (x:=u) (by simpa using hu) fun h' st' sb=>?_;have I1:Inv X pins σ H { s with heap:=h' }:=I.turned (t':=s.toks) (fun b o hb e=>(sb.2 b hb).trans e) f0 f1 f3 f4 f5;obtain⟨o,e,c,d⟩:=id st';exact⟨u,rfl,Dv (s:={ s with heap:=h' }) e c d (by decide) ⟨x,H,I1,ru,⟨rfl,fun ys hy=>by rw [I.tuple_inj hy hq]; exact hx⟩,st',fun b hb=>(hf b hb).1⟩⟩
 done:=by
  intro X hP hw hK hc i pins s σ H E I hf st hg;subst hP hw hK;obtain⟨xs,hq,hx⟩:=hg;obtain⟨its,rv,p,hz⟩:=I.tuple hq;obtain⟨f0,f1,f2,f3,f4,f5⟩:=hf it (by simp);have hl:=rv.length;exact wpAny_pyNext_tuple_end (I.ok.hd hc) st (show s.heap.IsTuple a its.toArray from p) (by simp; omega) fun h' eb=>⟨rfl,I.turned (t':=s.toks) (fun b o hb e=>eb b o hb e) f0 f1 f3 f4 f5⟩
 self:=fun _ _ _ _ _ st h=>wpAny_pyIter_tupleiter st h
theorem zy {P:S0} {w:SZ} {K:RL} {tg:Tf} (it:S3) (lo:Int) (n:Nat):Turn P w K tg (Lb lo n) [it] it (fun i h=>IsRangeIter h it (lo+(i:Nat)*1) ((n:Int) - (i:Nat)) 1) where
 mem:=by simp
 obj:=fun i h st b hb=>by
  have e:b=it:=by simpa using hb
  subst e;exact⟨_,st,fun v z=>by
   have z':Data.fields _=Data.cell v:=z;cases z'⟩
 keep:=fun i h h' st k=>k it (by simp) _ st
 item:=by
  intro X hP hw hK hc i pins s σ H E I hf st hg;subst hP hw hK;obtain⟨f0,f1,f2,f3,f4,f5⟩:=hf it (by simp);have W:=Walks.range (prog:=X.prog) (w:=X.w) (I.ok.hd hc) it lo 1 n;refine W.item i s _ _ hg st fun v h' tk hv st' kk=>?_;obtain⟨t,rfl⟩:=hv;have I1:Inv X pins σ H { s with heap:=h',toks:=tk }:=I.turned (fun b o hb e=>kk b o (by simpa using hb) e) f0 f1 f3 f4 f5;refine⟨_,rfl,Dv (s:={ s with heap:=h',toks:=tk }) (n := "range_iterator") st' rfl rfl (by decide) ⟨.int (lo+i),H,I1,⟨t,?_⟩,⟨rfl,rfl⟩,st',fun b hb=>(hf b hb).1⟩⟩;rw [Int.mul_one]
 done:=by
  intro X hP hw hK hc i pins s σ H E I hf st hg;subst hP hw hK;obtain⟨f0,f1,f2,f3,f4,f5⟩:=hf it (by simp);exact wpAny_pyNext_range_end (I.ok.hd hc) st (by have:n<=i:=hg; omega) fun h' eb=>⟨rfl,I.turned (t':=s.toks) (fun b o hb e=>eb b o hb e) f0 f1 f3 f4 f5⟩
 self:=fun _ _ _ _ _ st h=>wpAny_pyIter_rangeiter st h
end L2

namespace L2
open PySem PySem.Spec PyProof.Rows
section
variable {X:Cx} {tg:Tf}
def Lp (K:RL) (tl:TE):TI:=fun σ H R=>tl σ H fun x H1=>∃ a,x=.ref a/\(∃ xs,oZ K H1 a xs)/\R (N5 K a) H1
def N9 (K:RL) (tl:TE):TI:=fun σ H R=>tl σ H fun x H1=>∃ a,x=.ref a/\(∃ xs,p8 K H1 a xs)/\R (Nf K a) H1
theorem Bo {l:Tf} {tl:TE} (hl:PE X l tl):PI X tg l (Lp X.K tl):=by
 intro pins s σ H R I h;refine eZ (hl pins s σ H _ I h) fun v s1 ⟨x,H1,I1,r1,q1⟩=>?_;obtain⟨a,e,⟨xs,hq⟩,q⟩:=q1;subst e;cases r1;obtain⟨its,rv,p,hz⟩:=I1.list hq;refine Tq p.isList ?_;refine⟨s1.heap.objs.size,[s1.heap.objs.size],_,_,H1,rfl,I1.kept (t':=s1.toks) fun b o e=>Sn _ e,BX a _,⟨_,Sq _ rfl,rfl,rfl⟩,fun b hb=>?_,q⟩;have e:b=s1.heap.objs.size:=by simpa using hb
 subst e;exact I1.fpOk (Ph _) (I1.hok.fresh (Ph _))
theorem Jl {l:Tf} {tl:TE} (hl:PE X l tl):PI X tg l (N9 X.K tl):=by
 intro pins s σ H R I h;refine eZ (hl pins s σ H _ I h) fun v s1 ⟨x,H1,I1,r1,q1⟩=>?_;obtain⟨a,e,⟨xs,hq⟩,q⟩:=q1;subst e;cases r1;obtain⟨its,rv,p,hz⟩:=I1.tuple hq;refine wpAny_pyIter_tuple (show s1.heap.IsTuple a its.toArray from p) ?_;refine⟨s1.heap.objs.size,[s1.heap.objs.size],_,_,H1,rfl,I1.kept (t':=s1.toks) fun b o e=>Sn _ e,zE a _,⟨_,Sq _ rfl,rfl,rfl⟩,fun b hb=>?_,q⟩;have e:b=s1.heap.objs.size:=by simpa using hb
 subst e;exact I1.fpOk (Ph _) (I1.hok.fresh (Ph _))
theorem yR {pins:List (S3×Obj)} {σ:St} {H:Hp} {s:Tc} {R:It->Hp->Prop} {E:SY->Tc->Prop} {lo hi:Int} {t u v:Tok} {tk:Nat} (I:Inv X pins σ H s) (h1:-(2 ^ 62)<=lo) (h2:lo < 2 ^ 62) (h3:-(2 ^ 62)<=hi) (h4:hi < 2 ^ 62)
  (q:R (Lb lo (hi - lo).toNat) H):Te (model X.prog X.w) X.A (pyIter (.ref s.heap.objs.size)) (PIE X pins σ tg R) E { s with heap:=s.heap.push { cls:=.type "range",data:=.fields #[.int lo t,.int hi u,.int 1 v] },toks:=tk }:=by
 refine wpAny_pyIter_range (IsRange.new ..) (small_one h1 h2 h3 h4) ?_;have I1:Inv X pins σ H { s with heap:=s.heap.push { cls:=.type "range",data:=.fields #[.int lo t,.int hi u,.int 1 v] },toks:=tk }:=I.kept fun b o e=>Sn _ e;refine⟨(s.heap.push { cls:=.type "range",data:=.fields #[.int lo t,.int hi u,.int 1 v] }).objs.size,[(s.heap.push { cls:=.type "range",data:=.fields #[.int lo t,.int hi u,.int 1 v] }).objs.size],_,_,H,rfl,
  I1.kept (t':=tk) fun b o e=>Sn _ e,zy _ lo (hi - lo).toNat,?_,fun b hb=>?_,q⟩
 ·have e1:lo+((0:Nat):Int)*1=lo:=by simp
  have e2:(((hi - lo).toNat:Nat):Int) - ((0:Nat):Int)=Builtin.Range.rangeSize lo hi 1:=by rw [rangeSize_one]; split <;> omega
  show IsRangeIter _ _ (lo+((0:Nat):Int)*1) ((((hi - lo).toNat:Nat):Int) - ((0:Nat):Int)) 1;rw [e1,e2];exact Sq _ rfl
 ·have e:b=(s.heap.push { cls:=.type "range",data:=.fields #[.int lo t,.int hi u,.int 1 v] }).objs.size:=by simpa using hb
  subst e;exact I1.fpOk (Ph _) (I1.hok.fresh (Ph _))
def K7 (ta:TA):TI:=fun σ H R=>ta σ H fun vs H1=>∃ j:Int,vs=[.int j]/\-(2 ^ 62)<=j/\j < 2 ^ 62/\R (Lb 0 j.toNat) H1
def KZ (ta:TA):TI:=fun σ H R=>ta σ H fun vs H1=>∃ i j:Int,vs=[.int i,.int j]/\(-(2 ^ 62)<=i/\i < 2 ^ 62/\-(2 ^ 62)<=j/\j < 2 ^ 62)/\R (Lb i (j - i).toNat) H1
theorem BV {a:Tf} {ta:TA} {p pos:Pos} (hg:Gl X "range") (hm:X.mg "range"=none) (ha:PA X [a] ta) (hs:Tg [a] X.env=[(false,eval a X.env)]:=by rfl):PI X tg (.Call (.Name "range" p) [a] [] pos) (K7 ta):=by
 intro pins s σ H R I h;refine Call_ (mU I hg hm boot_range (Sy (eZ (ha pos pins s σ H _ I h) fun us s1 ⟨vs,H1,I1,r1,q1⟩=>?_) hs rfl));obtain⟨j,e,q1,q2,q⟩:=q1;subst e;cases r1 with
 | cons r rr =>
  cases rr;obtain⟨t,rfl⟩:=r;exact call_range_1 (yR I1 ‹0› ‹0› q1 q2 (by simpa using q))
theorem CP {a b:Tf} {ta:TA} {p pos:Pos} (hg:Gl X "range") (hm:X.mg "range"=none) (ha:PA X [a,b] ta) (hs:Tg [a,b] X.env=[(false,eval a X.env),(false,eval b X.env)]:=by rfl) (hs2:Tg [b] X.env=[(false,eval b X.env)]:=by rfl) :
  PI X tg (.Call (.Name "range" p) [a,b] [] pos) (KZ ta):=by
 intro pins s σ H R I h;refine Call_ (mU I hg hm boot_range (Sy (eZ (ha pos pins s σ H _ I h) fun us s1 ⟨vs,H1,I1,r1,q1⟩=>?_) (by rw [hs,hs2]) (by rw [hs2]; rfl)));obtain⟨i,j,e,⟨q1,q2,q3,q4⟩,q⟩:=q1;subst e;cases r1 with
 | cons r rr =>
  cases rr with
  | cons r' rr =>
   cases rr;obtain⟨t,rfl⟩:=r;obtain⟨t',rfl⟩:=r';exact call_range_2 (yR I1 q1 q2 q3 q4 q)

def Nj (wi:TI) (g:TG) (tb:TS):TS:=fun D σ H=>wi σ H fun J H1=>∃ W:Nat->Nat->St->Hp->Prop,(∃ m,W 0 m σ H1)/\∀ i m σ H,W i m σ H ->
 (J.stop i H/\D.nx σ H)\/(J.go i H/\∃ N:St->Hp->Prop,(∀ σ' H',N σ' H'->∃ m',m' < m/\W (i+1) m' σ' H')/\∀ x H',J.yld i H x H'->g x σ H' fun σ2 H2=>tb { D with nx:=N,ct:=N,bk:=D.nx } σ2 H2)
def tQ (fp:List S3) (h:S5):List (S3×Obj):=fp.filterMap fun b=>(h.get? b).map fun o=>(b,o)
theorem lR {fp:List S3} {h:S5} {b:S3} {o:Obj} (hb:b∈fp) (e:h.get? b=some o):(b,o)∈tQ fp h:=List.mem_filterMap.mpr ⟨b,hb,by rw [e]; rfl⟩
theorem Cd {fp:List S3} {h:S5} {p:S3×Obj} (hp:p∈tQ fp h):p.1∈fp/\h.get? p.1=some p.2:=by
 obtain⟨b,hb,e⟩:=List.mem_filterMap.mp hp;cases q:h.get? b with
 | none=>rw [q] at e; cases e
 | some o =>
  rw [q] at e;have e':(b,o)=p:=Option.some.inj e;subst e';exact⟨hb,q⟩
theorem Inv.pinned {pins:List (S3×Obj)} {σ:St} {H:Hp} {s:Tc} {fp:List S3} (I:Inv X pins σ H s) (hf:∀ b∈fp,uI X pins H b) (ho:∀ b∈fp,∃ o,s.heap.get? b=some o/\∀ v,o.data≠.cell v):Inv X (pins++tQ fp s.heap) σ H s :=
 I.pins_of fun p hp=>(List.mem_append.mp hp).elim (fun z=>I.pin p (Pj _ z)) fun z=>by
  obtain⟨hb,e⟩:=Cd z;obtain⟨f0,f1,f2,_⟩:=hf p.1 hb;obtain⟨o,e',d⟩:=ho p.1 hb;rw [e] at e'; cases e';exact⟨e,f0,f1,f2,d⟩
theorem Inv.unpinned {pins pl:List (S3×Obj)} {σ:St} {H:Hp} {s:Tc} (I:Inv X (pins++pl) σ H s):Inv X pins σ H s:=I.pins_of fun p hp=>I.pin p (Pj _ (O8 _ hp))
theorem IZ {iter:Tf} {body:List Th} {wi:TI} {g:TG} {tb:TS} {pos:Pos} (hp:Tr (model X.prog X.w) X.A X.env X.xe) (hc:X.calm=true) (hi:PI X tg iter wi) (hg:PG X tg g) (hb:x6 X body tb)
  (hs:∀ x,Ts iter X.env x=pure x:=by intro _; rfl):PS X (.For tg iter body [] pos) (Nj wi g tb):=by
 intro pins s σ H D I h;refine wpAny_For (eZ (hi pins s σ H _ I h) fun v s1 h1=>eZ h1 fun itv s2 h2=>?_) hs;obtain⟨it,fp,tn,J,H2,e,I2,T,st2,f2,W,⟨m0,w0⟩,turn⟩:=h2;subst e;have stat:∀ {H':Hp},(∀ b∈fp,H' b=none)->∀ b∈fp,uI X pins H' b:=fun hn b hb=>⟨hn b hb,(f2 b hb).2⟩
 refine codeAny_forLoop_any (fun n s'=>∃ i σ' H',Inv X pins σ' H' s'/\tn i s'.heap/\(∀ b∈fp,H' b=none)/\W i n σ' H') ?_ m0 ⟨0,σ,H2,I2,st2,fun b hb=>(f2 b hb).1,w0⟩;rintro n s3 ⟨i,σ3,H3,I3,st3,fr3,w3⟩;rcases turn i n σ3 H3 w3 with ⟨stop,qn⟩ | ⟨go,N,hN,step⟩
 ·refine Tt hp (eZ (T.done X rfl rfl rfl hc i pins s3 σ3 H3 X.xe I3 (stat fr3) st3 stop) fun r s4 ⟨hr,I4⟩=>?_);subst hr;exact Tn ⟨σ3,H3,I4,qn⟩
 ·refine Tt hp (eZ (T.item X rfl rfl rfl hc i pins s3 σ3 H3 X.xe I3 (stat fr3) st3 go) fun r s4 ⟨u,hr,h4⟩=>?_);subst hr;refine Tt hp (eZ h4 fun _ s5 ⟨x,H5,I5,r5,y5,st5,fr5⟩=>?_);have I5':=I5.pinned (stat fr5) (T.obj _ _ st5);refine Tt hp (eZ (hg _ s5 σ3 H5 x u _ I5' r5 (step x H5 y5)) fun _ s6 ⟨σ6,H6,I6,q6⟩=>?_);refine Tt hp (eZ (hb _ s6 σ6 H6 _ I6 q6) fun f s7 q7=>?_);have again:∀ {σ7:St} {H7:Hp},Inv X (pins++tQ fp s5.heap) σ7 H7 s7->N σ7 H7->∃ m,m < n/\∃ i σ' H',Inv X pins σ' H' s7/\tn i s7.heap/\(∀ b∈fp,H' b=none)/\W i m σ' H':=fun {σ7 H7} I7 n7=>by
   obtain⟨m',hm,w7⟩:=hN σ7 H7 n7;refine⟨m',hm,i+1,σ7,H7,I7.unpinned,T.keep _ _ _ st5 fun b hb o e=>(I7.pin (b,o) (Pj _ (Pj _ (lR hb e)))).1,fun b hb=>?_,w7⟩;obtain⟨o,e,d⟩:=T.obj _ _ st5 b hb;exact(I7.pin (b,o) (Pj _ (Pj _ (lR hb e)))).2.1
  cases f with
  | next=>obtain⟨σ7,H7,I7,n7⟩:=q7; exact again I7 n7
  | cont=>obtain⟨σ7,H7,I7,n7⟩:=q7; exact again I7 n7
  | brk=>obtain⟨σ7,H7,I7,q7⟩:=q7; exact⟨σ7,H7,I7.unpinned,q7⟩
  | ret v=>obtain⟨x7,σ7,H7,I7,r7,q7⟩:=q7; exact⟨x7,σ7,H7,I7.unpinned,r7,q7⟩
end

end L2

namespace L2
open PySem PySem.Spec PyProof.Rows

abbrev R2:=V->V->Hp->VK->Prop
def mr (X:Cx) (f:SY->SY->Sem SY) (r:R2):Prop :=
 ∀ (pins:List (S3×Obj)) (s:Tc) (σ:St) (H:Hp) (x y:V) (v u:SY) (Q:VK),Inv X pins σ H s->RelV x v->RelV y u->r x y H Q ->
  Te (model X.prog X.w) X.A (f v u) (EP X pins σ Q) X.xe s
def NS (X:Cx) (f:SY->Sem SY) (r:V->Hp->VK->Prop):Prop :=
 ∀ (pins:List (S3×Obj)) (s:Tc) (σ:St) (H:Hp) (x:V) (v:SY) (Q:VK),Inv X pins σ H s->RelV x v->r x H Q ->
  Te (model X.prog X.w) X.A (f v) (EP X pins σ Q) X.xe s
def eA (X:Cx) (f:SY) (r:List V->Hp->VK->Prop):Prop :=
 ∀ (pins:List (S3×Obj)) (s:Tc) (σ:St) (H:Hp) (xs:List V) (us:List SY) (Q:VK),Inv X pins σ H s->Vals xs us->r xs H Q ->
  Te (model X.prog X.w) X.A (call f us) (EP X pins σ Q) X.xe s
def N6 (X:Cx) (r:V->Hp->(Bool->Hp->Prop)->Prop):Prop :=
 ∀ (pins:List (S3×Obj)) (s:Tc) (σ:St) (H:Hp) (x:V) (v:SY) (Q:Bool->Hp->Prop),Inv X pins σ H s->RelV x v->r x H Q ->
  Te (model X.prog X.w) X.A (truthy v) (TP X pins σ Q) X.xe s

def KA (r:R2) (ta tb:TE):TE:=fun σ H Q=>ta σ H fun x H1=>tb σ H1 fun y H2=>r x y H2 Q
def Oi (r:V->Hp->VK->Prop) (ta:TE):TE:=fun σ H Q=>ta σ H fun x H1=>r x H1 Q
def rI (C:Int->Int->Prop) (g:Int->Int->V):R2:=fun x y H Q=>∃ i j,x=.int i/\y=.int j/\C i j/\Q (g i j) H
def Ez (g:Int->Int->V):R2:=fun x y H Q=>∃ i j,x=.int i/\y=.int j/\Q (g i j) H
def rU (g:Int->V):V->Hp->VK->Prop:=fun x H Q=>∃ i,x=.int i/\Q (g i) H

section
variable {X:Cx} {a b c:Tf} {ta tb tc:TE} {pos:Pos}

theorem IU (ha:PE X a ta) (hb:PE X b tb) {pins:List (S3×Obj)} {s:Tc} {σ:St} {H:Hp} {R:V->V->Hp->Prop} (I:Inv X pins σ H s)
  (h:ta σ H fun x H1=>tb σ H1 fun y H2=>R x y H2) {Q:SY->Tc->Prop} {f:SY->SY->Sem SY}
  (hf:∀ v u s2 x y H2,Inv X pins σ H2 s2->RelV x v->RelV y u->R x y H2->Te (model X.prog X.w) X.A (f v u) Q X.xe s2) :
  Te (model X.prog X.w) X.A (eval a X.env) (fun v s₁=>Te (model X.prog X.w) X.A (eval b X.env) (fun u s₂=>Te (model X.prog X.w) X.A (f v u) Q X.xe s₂) X.xe s₁) X.xe s:=by
 refine eZ (ha pins s σ H _ I h) fun v s1 ⟨x,H1,I1,r1,q1⟩=>?_;refine eZ (hb pins s1 σ H1 _ I1 q1) fun u s2 ⟨y,H2,I2,r2,q2⟩=>?_;exact hf v u s2 x y H2 I2 r1 r2 q2

theorem Li {op:Operator} {r:R2} (ho:mr X (Tu op) r) (ha:PE X a ta) (hb:PE X b tb):PE X (.BinOp a op b pos) (KA r ta tb):=by
 intro pins s σ H Q I h;exact wpAny_BinOp (IU ha hb I h fun v u s2 x y H2 I2 rx ry q=>ho pins s2 σ H2 x y v u Q I2 rx ry q)
theorem Kb {op:UnaryOp} {r:V->Hp->VK->Prop} (ho:NS X (unaryOp op) r) (ha:PE X a ta):PE X (.UnaryOp op a pos) (Oi r ta):=by
 intro pins s σ H Q I h;exact UnaryOp_ (eZ (ha pins s σ H _ I h) fun v s1 ⟨x,H1,I1,r1,q1⟩=>ho pins s1 σ H1 x v Q I1 r1 q1)
theorem Kw {f:SY->SY->Sem SY} {C:Int->Int->Prop} {g:Int->Int->Int}
  (rule:∀ (i j:Int) (t u:Tok) (s:Tc) (Q:SY->Tc->Prop) (E:SY->Tc->Prop),C i j->Q (.int (g i j) s.toks) { s with toks:=s.toks+1 }->Te (model X.prog X.w) X.A (f (.int i t) (.int j u)) Q E s) :
  mr X f (rI C fun i j=>.int (g i j)):=by
 intro pins s σ H x y v u Q I rx ry h;obtain⟨i,j,rfl,rfl,hc,q⟩:=h;obtain⟨t,rfl⟩:=rx;obtain⟨t',rfl⟩:=ry;exact rule i j t t' s _ _ hc ⟨.int (g i j),H,I.tok _,⟨_,rfl⟩,q⟩
theorem Jk {f:SY->SY->Sem SY} {g:Int->Int->Int}
  (rule:∀ (i j:Int) (t u:Tok) (s:Tc) (Q:SY->Tc->Prop) (E:SY->Tc->Prop),Q (.int (g i j) s.toks) { s with toks:=s.toks+1 }->Te (model X.prog X.w) X.A (f (.int i t) (.int j u)) Q E s) :
  mr X f (Ez fun i j=>.int (g i j)):=by
 intro pins s σ H x y v u Q I rx ry h;obtain⟨i,j,rfl,rfl,q⟩:=h;obtain⟨t,rfl⟩:=rx;obtain⟨t',rfl⟩:=ry;exact rule i j t t' s _ _ ⟨.int (g i j),H,I.tok _,⟨_,rfl⟩,q⟩
theorem Lw {f:SY->SY->Sem SY} {g:Int->Int->Bool}
  (rule:∀ (i j:Int) (t u:Tok) (s:Tc) (Q:SY->Tc->Prop) (E:SY->Tc->Prop),Q (.bool (g i j)) s->Te (model X.prog X.w) X.A (f (.int i t) (.int j u)) Q E s) :
  mr X f (Ez fun i j=>.bl (g i j)):=by
 intro pins s σ H x y v u Q I rx ry h;obtain⟨i,j,rfl,rfl,q⟩:=h;obtain⟨t,rfl⟩:=rx;obtain⟨t',rfl⟩:=ry;exact rule i j t t' s _ _ ⟨.bl (g i j),H,I,rfl,q⟩

def J6 (i j:Int):Prop:=0<=j/\j<=1000000/\i.natAbs < 2 ^ 64
def IY (i j:Int):Prop:=(-(2 ^ 64) < i/\i < 2 ^ 64)\/(-(2 ^ 64) < j/\j < 2 ^ 64)
theorem IY.ok {i j:Int} (h:IY i j):IntMulOk i j:=by
 rcases h with ⟨h1,h2⟩ | ⟨h1,h2⟩
 ·exact .of_left (intBits_le_64 h1 h2)
 ·exact .of_right (intBits_le_64 h1 h2)
theorem zp (k:Nat):(0:Int)<=2 ^ k:=by
 rw [two_pow_cast];exact Pk _

theorem Jr:mr X (Tu .Add) (Ez fun i j=>.int (i+j)):=Jk fun _ _ _ _ _ _ _ q=>add_int q
theorem sB:mr X (Tu .Sub) (Ez fun i j=>.int (i - j)):=Jk fun _ _ _ _ _ _ _ q=>sub_int q
theorem iQ:mr X (Tu .Mult) (rI IY fun i j=>.int (i*j)):=Kw fun _ _ _ _ _ _ _ hc q=>mul_int q hc.ok
theorem bJ:mr X (Tu .Mod) (rI (fun _ j=>0 < j) fun i j=>.int (i%j)):=Kw fun i j _ _ _ _ _ hc q=>by
 have h1:(0:Int) < j:=hc;exact mod_int' ‹0› (by rw [Int.fmod_eq_emod_of_nonneg i ‹0›]; exact q)
theorem qo:mr X (Tu .Pow) (rI J6 fun i j=>.int (i ^ j.toNat)):=Kw fun _ _ _ _ _ _ _ hc q=>pow_int_small hc.1 hc.2.1 hc.2.2 q
theorem JH:mr X (Tu .RShift) (rI (fun _ j=>0<=j) fun i j=>.int (i / 2 ^ j.toNat)):=Kw fun i j _ _ _ _ _ hc q =>
 rshift_int hc (by rw [Pl i (zp _)]; exact q)
theorem Ir:mr X (Tu .BitAnd) (Ez fun i j=>.int (Builtin.bitAnd i j)):=Jk fun _ _ _ _ _ _ _ q=>and_int q
theorem OM {f:SY->Sem SY} {g:Int->Int}
  (rule:∀ (i:Int) (t:Tok) (s:Tc) (Q:SY->Tc->Prop) (E:SY->Tc->Prop),Q (.int (g i) s.toks) { s with toks:=s.toks+1 }->Te (model X.prog X.w) X.A (f (.int i t)) Q E s) :
  NS X f (rU fun i=>.int (g i)):=by
 intro pins s σ H x v Q I rx h;obtain⟨i,rfl,q⟩:=h;obtain⟨t,rfl⟩:=rx;exact rule i t s _ _ ⟨.int (g i),H,I.tok _,⟨_,rfl⟩,q⟩
theorem Ie:NS X (unaryOp .USub) (rU fun i=>.int (-i)):=OM fun _ _ _ _ _ q=>neg_int q
end

section
variable {X:Cx} {a b c:Tf} {ta tb tc:TE} {pos:Pos}
theorem DB {pins:List (S3×Obj)} {σ:St} {H:Hp} {s:Tc} {Q:VK} {k k':Bool} (I:Inv X pins σ H s) (q:Q (.bl k) H) (e:k=k'):EP X pins σ Q (.bool k') s:=by
 subst e;exact⟨.bl k,H,I,rfl,q⟩
theorem Ki:mr X (Tv .Lt) (Ez fun i j=>.bl (decide (i < j))):=Lw fun _ _ _ _ _ _ _ q=>lt_int q
theorem Hw:mr X (Tv .Gt) (Ez fun i j=>.bl (decide (j < i))):=Lw fun _ _ _ _ _ _ _ q=>gt_int q
theorem CY:mr X (Tv .Lt) (fun x y H Q=>∃ i j,x=.str i/\y=.str j/\Q (.bl (decide (i.cps.toList < j.cps.toList))) H):=by
 intro pins s σ H x y v u Q I rx ry h;obtain⟨i,j,rfl,rfl,q⟩:=h;obtain⟨t,rfl⟩:=rx;obtain⟨t',rfl⟩:=ry;exact lt_str (DB I q rfl)
theorem cz (b:Tf) {op:CmpOp} (h:op≠.In:=by decide) (h2:op≠.NotIn:=by decide):Tw op b=false:=by
 have e1:(op==CmpOp.In)=false:=by cases op <;> first | rfl | exact absurd rfl h
 have e2:(op==CmpOp.NotIn)=false:=by cases op <;> first | rfl | exact absurd rfl h2
 cases b <;> simp [Tw,e1,e2]
theorem GB {op:CmpOp} {r:R2} (ho:mr X (Tv op) r) (ha:PE X a ta) (hb:PE X b tb) (hm:Tw op b=false):PE X (.Compare a [op] [b] pos) (KA r ta tb):=by
 intro pins s σ H Q I h;exact wpAny_Compare1 (IU ha hb I h fun v u s2 x y H2 I2 rx ry q=>ho pins s2 σ H2 x y v u Q I2 rx ry q) hm
def HF (t:TE):TT:=fun σ H Q=>t σ H fun x H'=>∃ k,x=.bl k/\Q k H'
theorem Hi {op:CmpOp} {r:R2} (ho:mr X (Tv op) r) (ha:PE X a ta) (hb:PE X b tb) (hm:Tw op b=false):PT X (.Compare a [op] [b] pos) (HF (KA r ta tb)):=by
 intro pins s σ H Q I h;refine wpAny_isTrue_Compare1 (eZ (ha pins s σ H _ I h) fun v s1 ⟨x,H1,I1,r1,q1⟩=>eZ (hb pins s1 σ H1 _ I1 q1) fun u s2 ⟨y,H2,I2,r2,q2⟩ =>
  eZ (ho pins s2 σ H2 x y v u _ I2 r1 r2 q2) fun c s3 ⟨z,H3,I3,r3,k,e,q3⟩=>?_) hm
 subst e;cases r3;exact Tl ⟨H3,I3,q3⟩
def KU (K:RL) (x:V) (H:Hp) (k:Bool):Prop :=
 match x with
 | .non=>k=false
 | .bl b=>k=b
 | .int i=>k=(i != 0)
 | .str y=>y.length<=S6/\k=((y.length:Int) != 0)
 | .byt y=>y.size<=S6/\k=((y.size:Int) != 0)
 | .ref p=>(∃ xs,oZ K H p xs/\k=!xs.isEmpty)\/(∃ xs,p8 K H p xs/\k=!xs.isEmpty)\/∃ kvs,H p=some (.dK kvs)/\k=!kvs.isEmpty
 | _=>False
theorem zv {κ:Type} {kvs:List (κ×V)} {vs:List (κ×SY)} (r:KV kvs vs):(!vs.isEmpty)=!kvs.isEmpty:=by
 cases r <;> rfl
theorem sy {xs:List V} {its:List SY} (r:Vals xs its):(!its.toArray.isEmpty)=!xs.isEmpty:=by
 cases r <;> simp
theorem qM:(S6:Nat) < 2 ^ 63:=by rw [Tx]; decide
theorem Jh:N6 X (fun x H Q=>∃ k,KU X.K x H k/\Q k H):=by
 intro pins s σ H x v Q I rx h;obtain⟨k,e,q⟩:=h;have hl:=qM;have hs:S6=16777216:=Tx;cases x with
 | non =>
  cases rx;have e':k=false:=e;subst e';exact truthy_none ⟨H,I,q⟩
 | bl b =>
  cases rx;have e':k=b:=e;subst e';exact Tl ⟨H,I,q⟩
 | int i =>
  obtain⟨t,rfl⟩:=rx;have e':k=(i != 0):=e;subst e';exact PySem.P.truthy_int ⟨H,I,q⟩
 | str y =>
  obtain⟨t,rfl⟩:=rx;obtain⟨hy,e'⟩:y.length<=S6/\k=((y.length:Int) != 0):=e;subst e';exact PySem.P.truthy_str ‹0› ⟨H,I.tok _,q⟩
 | byt y =>
  obtain⟨t,rfl⟩:=rx;obtain⟨hy,e'⟩:y.size<=S6/\k=((y.size:Int) != 0):=e;subst e';exact PySem.W.truthy_bytes ‹0› ⟨H,I.tok _,q⟩
 | ref p =>
  cases rx;have e':(∃ xs,oZ X.K H p xs/\k=!xs.isEmpty)\/(∃ xs,p8 X.K H p xs/\k=!xs.isEmpty)\/∃ kvs,H p=some (.dK kvs)/\k=!kvs.isEmpty:=e;rcases e' with ⟨xs,hx,e'⟩ | ⟨xs,hx,e'⟩ | ⟨kvs,hx,e'⟩
  ·subst e';obtain⟨its,r,pl,hz⟩:=I.list hx;have hlen:=r.length;exact wpAny_truthy_list pl.isList (by simp only [Pm]; omega) ⟨H,I.tok _,by rw [sy r]; exact q⟩
  ·subst e';obtain⟨its,r,pl,hz⟩:=I.tuple hx;have hlen:=r.length;exact truthy_tuple pl (by simp only [Pm]; omega) ⟨H,I.tok _,by rw [sy r]; exact q⟩
  ·subst e';obtain⟨hz,hS,vs,r,m⟩:kvs.length<=S6/\(p==sysModules)=false/\∃ vs,KV kvs vs/\s.heap.DictOf (cn X.prog X.w) p vs:=I.hok p _ hx;have hlen:kvs.length=vs.length:=Paired.length r;exact wpAny_truthy_dict hS m ‹0› ⟨H,I.tok _,by rw [zv r]; exact q⟩
 | _=>exact(show False from e).elim
theorem Dl (ha:PE X a ta) (he:∀ whole,isTrue a X.env whole=(do let v <- whole; standAt a.pos; holding [v] (truthy v))) :
  PT X a (fun σ H Q=>ta σ H fun x H'=>∃ k,KU X.K x H' k/\Q k H'):=by
 intro pins s σ H Q I h;exact isTrue_plain (eZ (ha pins s σ H _ I h) fun v s1 ⟨x,H1,I1,r1,q1⟩=>Jh pins s1 σ H1 x v Q I1 r1 q1) (he _)

theorem zr:mr X (Tu .Add) (fun x y H Q=>∃ i j,x=.str i/\y=.str j/\i.length+j.length<=S6/\Q (.str (i++j)) H):=by
 intro pins s σ H x y v u Q I rx ry h;obtain⟨i,j,rfl,rfl,hz,q⟩:=h;obtain⟨t,rfl⟩:=rx;obtain⟨t',rfl⟩:=ry;exact add_str (fun t' tk=>⟨.str (i++j),H,I.tok _,⟨_,rfl⟩,q⟩) hz
theorem vals1 {x:V} {us:List SY} (r:Vals [x] us):∃ u,us=[u]/\RelV x u:=by
 cases r with
 | cons r1 r2=>cases r2; exact⟨_,rfl,r1⟩
theorem vals2 {x y:V} {us:List SY} (r:Vals [x,y] us):∃ u w',us=[u,w']/\RelV x u/\RelV y w':=by
 cases r with
 | cons r1 r2 =>
  cases r2 with
  | cons r3 r4=>cases r4; exact⟨_,_,rfl,r1,r3⟩
theorem B3 (hc:X.calm=true):eA X (.builtin "max") (fun xs H Q=>∃ i j,xs=[.int i,.int j]/\Q (.int (if j > i then j else i)) H):=by
 intro pins s σ H xs us Q I r h;obtain⟨i,j,rfl,q⟩:=h;obtain⟨u,w',rfl,⟨t,rfl⟩,⟨t',rfl⟩⟩:=vals2 r;refine max_two_ints (I.ok.hd hc) fun h' tk k=>⟨_,H,I.kept k,?_,q⟩
 by_cases hj:j > i
 ·rw [if_pos hj,if_pos hj]; exact⟨_,rfl⟩
 ·rw [if_neg hj,if_neg hj]; exact⟨_,rfl⟩
theorem CH (hc:X.calm=true):eA X (.builtin "min") (fun xs H Q=>∃ i j,xs=[.int i,.int j]/\Q (.int (if j < i then j else i)) H):=by
 intro pins s σ H xs us Q I r h;obtain⟨i,j,rfl,q⟩:=h;obtain⟨u,w',rfl,⟨t,rfl⟩,⟨t',rfl⟩⟩:=vals2 r;refine min_two_ints (I.ok.hd hc) fun h' tk k=>⟨_,H,I.kept k,?_,q⟩
 by_cases hj:j < i
 ·rw [if_pos hj,if_pos hj]; exact⟨_,rfl⟩
 ·rw [if_neg hj,if_neg hj]; exact⟨_,rfl⟩
theorem vi:eA X (.type "int") (fun xs H Q=>(∃ i,xs=[.int i]/\Q (.int i) H)\/∃ k,xs=[.bl k]/\Q (.int (if k then 1 else 0)) H):=by
 intro pins s σ H xs us Q I r h;rcases h with ⟨i,rfl,q⟩ | ⟨k,rfl,q⟩
 ·obtain⟨u,rfl,t,rfl⟩:=vals1 r;exact call_int_int ⟨.int i,H,I,⟨_,rfl⟩,q⟩
 ·obtain⟨u,rfl,r1⟩:=vals1 r;cases r1;exact call_int_bool ⟨.int (if k then 1 else 0),H,I.tok _,⟨_,rfl⟩,q⟩
end
end L2

namespace L2
open PySem PySem.Spec PyProof.Rows

structure BE (h:S5) (x dx C:S3) (mA:Str->Option SY):Prop where
 obj:h.get? x=some (RJ C dx)
 ns:h.Ns1 dx mA
 ne:dx≠x

theorem BU {h:S5} {dx:S3} {mA:Str->Option SY} (n:h.Ns1 dx mA):∃ od,h.get? dx=some od/\∀ name,RM name od=some (mA name):=by
 obtain⟨o,es,ep,ho,hd,hk,_,hm⟩:=n;refine⟨o,ho,fun name=>?_⟩;have e:=hm name;unfold nsFind findBy at e;rw [<- Array.find?_toList] at e;unfold RM;rw [hd];dsimp only;split
 ·rename_i y q;rw [q] at e;exact congrArg some e
 ·rename_i q;rw [q] at e;have a:es.toList.any (·.refKey)=false:=by
   rw [List.any_eq_false];intro y hy;obtain⟨z,t,hkey⟩:=hk y (Array.mem_toList_iff.mp hy);simp [DictEntry.refKey,hkey]
  have a':¬ es.toList.any (·.refKey)=true:=by rw [a]; exact Pn
  rw [if_neg a'];exact congrArg some e

theorem BE.look {h:S5} {x dx C:S3} {mA:Str->Option SY} (I:BE h x dx C mA):∃ od,PySem.W.InstAt h x (RJ C dx) C (some od)/\∀ name,RM name od=some (mA name) :=
 let ⟨od,ho,hl⟩:=BU I.ns
 ⟨od,⟨I.obj,rfl,rfl,ho⟩,hl⟩

section
variable {prog:S0} {w:SZ} {A:Tb} {E:SY->Tc->Prop} {s:Tc} {K:RL} {x dx C f:S3} {mA:Str->Option SY} {name:Str} {v:SY}

theorem Fy {expr:Bool} {Q:SY->Tc->Prop} (X:K.In s.heap) (I:BE s.heap x dx C mA) (hg:RN K C name=true) (hh:RO K C=true)
  (ha:RP K (.ref C) name=some none) (hv:mA name=some v) (hv':RQ v=true) (h:Q v { s with toks:=s.toks+1 }) :
  Te (model prog w) A (getAttr (.ref x) name expr) Q E s:=by
 obtain⟨od,J,hl⟩:=I.look;exact PySem.W.get_value X J (RT hg).1 (PySem.W.findObj_own hh ha rfl (by rw [hl,hv])) hv' h

theorem E7 {pl:Sem Bool} {Q:SY×List SY->Tc->Prop} (X:K.In s.heap) (I:BE s.heap x dx C mA) (hg:RN K C name=true)
  (hf:RP K (.ref C) name=some (some (.ref f))) (ht:RU K (.ref f)=true) (hv:mA name=none) (h:Q (.ref f,[.ref x]) s) :
  Te (model prog w) A (getMethod (.ref x) name pl) Q E s:=by
 obtain⟨od,J,hl⟩:=I.look;exact PySem.W.method_fn X J (RT hg).1 (RT hg).2 hf (beq_iff_eq.mp ht) (by show (RM name od).map (·.isSome)=some false; rw [hl,hv]; rfl) h

theorem Ho {ns:List Str} {Q:Unit->Tc->Prop} (X:K.In s.heap) (I:BE s.heap x dx C mA)
  (hs:RP K (.ref C) "__setattr__"=some (some (.builtin "object.__setattr__"))) (hp:RV K C=true) (ht:RW K C name=some none) (hh:RO K C=true)
  (hw:PySem.Within mA ns) (hsz:ns.length<=S6)
  (h:∀ h',BE h' x dx C (fun y=>if y=name then some v else mA y)->Sl dx s.heap h'->Q () { s with heap:=h',toks:=s.toks+2 }) :
  Te (model prog w) A (setAttr (.ref x) name v) Q E s:=by
 obtain⟨od,J,hl⟩:=I.look;refine PySem.W.set_plain X J hs (PySem.W.osa_open (s:={ s with toks:=s.toks+1 }) (r:=none) X J hp ht fun b=>?_);obtain⟨cd,hc,hd'⟩:=PySem.W.any_some hh;have hx:s.heap.get? x=some ⟨.ref C,some dx,.plain,#[]⟩:=I.obj;refine Tp (To (Tp (Tp (wpAny_loadPart hx (Tp (PySem.W.Looks.here (s:={ s with toks:=s.toks+1 }) (PySem.W.looks_clsIn X hc) ?_))))));rw [hd'];refine To (a:=some dx) (Tp (To (Tp ?_)));refine wpAny_nsSet1 (s:={ s with toks:=s.toks+1 }) I.ns fun h' hn2 hs2=>?_;obtain⟨oD,esD,epD,hoD,hdD,hcD⟩:=hn2.count (PySem.Within.cons name v hw);refine Tp (wpAny_lookBehind hoD (by rw [hdD]; exact pastItsLine_dict (O2 hcD (by rw [Pp]; omega))) ?_);exact To (h _ ⟨(hs2.2 _ (Ne.symm I.ne)).trans I.obj,hn2,I.ne⟩ hs2)

theorem Fm {R:Result->Tc->Prop} {vs:List SY} {kw:List (Str×SY)} (X:K.In s.heap) (hm:RX K C=true)
  (hi:RP K (.ref C) "__init__"=some (some (.ref f))) (hf:PySem.W.typeIn K (.ref f)=some (.type "function"))
  (h:Tz (model prog w) (A.under (.builtin "type.__call__" ⟨.ref C::vs,kw⟩)) (.call (.ref f) ⟨.ref (s.heap.objs.size+1)::vs,kw⟩) (PySem.W.InitBack (s.heap.objs.size+1) R)
   { s with heap:=(s.heap.push RY).push (RJ C s.heap.objs.size) }) :
  Tz (model prog w) A (.call (.ref C) ⟨vs,kw⟩) R s:=by
 obtain⟨hh,g,d,t,os⟩:=s;exact PySem.W.make_core (PySem.W.makes_of X hm) (PySem.W.looks_findIn X hi) (fun self=>PySem.W.bind_fn X self hf) (.inl rfl) h
end

def mh (f:Str) (v:V):List (Str×V)->List (Str×V)
 | []=>[(f,v)]
 | (g,x)::r=>if g=f then (g,v)::r else (g,x)::mh f v r
theorem rg (f g:Str) (v:V):∀ fs:List (Str×V),(mh f v fs).lookup g=if g=f then some v else fs.lookup g
 | []=>by
  show List.lookup g [(f,v)]=_;by_cases h:g=f
  ·have hb:(g==f)=true:=beq_iff_eq.mpr h;simp only [List.lookup,hb,if_pos h]
  ·have hb:(g==f)=false:=beq_eq_false_iff_ne.mpr h;simp only [List.lookup,hb,if_neg h]
 | (k,x)::r=>by
  have ih:=rg f g v r;rw [show mh f v ((k,x)::r)=(if k=f then (k,v)::r else (k,x)::mh f v r) from rfl];by_cases hk:k=f
  ·rw [if_pos hk];by_cases h:g=k
   ·have hb:(g==k)=true:=beq_iff_eq.mpr h;simp only [List.lookup,hb,if_pos (h.trans hk)]
   ·have hb:(g==k)=false:=beq_eq_false_iff_ne.mpr h;simp only [List.lookup,hb,if_neg (fun e:g=f=>h (e.trans hk.symm))]
  ·rw [if_neg hk];by_cases h:g=k
   ·have hb:(g==k)=true:=beq_iff_eq.mpr h;simp only [List.lookup,hb,if_neg (fun e:g=f=>hk (h.symm.trans e))]
   ·have hb:(g==k)=false:=beq_eq_false_iff_ne.mpr h;simp only [List.lookup,hb];exact ih
theorem p5 (f:Str) (v:V):∀ fs:List (Str×V),f∈(mh f v fs).map (·.1)/\∀ g,g∈fs.map (·.1)->g∈(mh f v fs).map (·.1)
 | []=>⟨by simp [mh],fun g h=>by simp at h⟩
 | (k,x)::r=>by
  obtain⟨i1,i2⟩:=p5 f v r;rw [show mh f v ((k,x)::r)=(if k=f then (k,v)::r else (k,x)::mh f v r) from rfl];by_cases hk:k=f
  ·rw [if_pos hk];subst hk;exact⟨by simp,fun g h=>by simpa using h⟩
  ·rw [if_neg hk];refine⟨?_,fun g h=>?_⟩
   ·rw [Pq];exact O7 _ i1
   ·rw [Pq] at h ⊢;rcases List.mem_cons.mp h with e | e
    ·exact List.mem_cons.mpr (.inl e)
    ·exact O7 _ (i2 g e)
theorem rd (f:Str) (v:V):∀ fs:List (Str×V),(mh f v fs).length<=fs.length+1
 | []=>by simp [mh]
 | (k,x)::r=>by
  have ih:=rd f v r;rw [show mh f v ((k,x)::r)=(if k=f then (k,v)::r else (k,x)::mh f v r) from rfl];by_cases hk:k=f
  ·rw [if_pos hk,Pp,Pp]; omega
  ·rw [if_neg hk,Pp,Pp]; omega

theorem sG.some_of {v:V} {o:Option SY} (r:sG (some v) o):∃ u,o=some u/\RelV v u:=by
 cases o with
 | none=>exact(show False from r).elim
 | some u=>exact⟨u,rfl,r⟩
theorem sG.none_of {o:Option SY} (r:sG none o):o=none:=by
 cases o with
 | none=>rfl
 | some u=>exact(show False from r).elim
theorem C0 {v:V} {u:SY} (r:RelV v u):RQ u=true:=by
 cases v with
 | non=>cases (show u=Value.none from r); rfl
 | bl b=>cases (show u=Value.bool b from r); rfl
 | int i=>obtain⟨t,e⟩:=(show ∃ t,u=Value.int i t from r); cases e; rfl
 | str x=>obtain⟨t,e⟩:=(show ∃ t,u=Value.str x t from r); cases e; rfl
 | byt b=>obtain⟨t,e⟩:=(show ∃ t,u=Value.bytes b t from r); cases e; rfl
 | flt b=>obtain⟨t,e⟩:=(show ∃ t,u=Value.float b t from r); cases e; rfl
 | ref a=>cases (show u=Value.ref a from r); rfl
 | ty n=>cases (show u=Value.type n from r); rfl

section
variable {P:S0} {w:SZ} {H H':Hp} {h h':S5} {a C dx:S3} {fs fs':List (Str×V)}
theorem xM (hok:pA P w H h) (e:H a=some (.ins C dx fs)):∃ mA,BE h a dx C mA/\(∀ f,sG (fs.lookup f) (mA f))/\PySem.Within mA (fs.map (·.1))/\fs.length<=1000/\H dx=some (.own a):=by
 obtain⟨d,z,ne,ob,mA,n,r,q⟩:=(show cK P w H h a (.ins C dx fs) from hok a _ e)
 exact⟨mA,⟨ob,n,ne⟩,r,q,z,d⟩
end

structure AG (K:RL) (C:S3):Prop where
 pg:RN K C Str.empty=true
 hd:RO K C=true
 po:RV K C=true
 sa:RP K (.ref C) "__setattr__"=some (some (.builtin "object.__setattr__"))
theorem AG.get {K:RL} {C:S3} (c:AG K C) (f:Str):RN K C f=true:=c.pg
def lg (K:RL) (C:S3) (f:Str):Prop:=RP K (.ref C) f=some none
theorem lg.taker {K:RL} {C:S3} {f:Str} (n:lg K C f):RW K C f=some none:=by
 unfold RW;rw [show RP K (.ref C) f=some none from n];rfl
structure Meth (K:RL) (C:S3) (m:Str) (f:S3):Prop where
 at_:RP K (.ref C) m=some (some (.ref f))
 fn:RU K (.ref f)=true
 kp:RZ K (.ref f)=true

section
variable {X:Cx} {pins:List (S3×Obj)} {σ:St} {H:Hp} {s:Tc} {a C dx:S3} {fs:List (Str×V)} {f:Str} {v:V} {A:Tb} {E:SY->Tc->Prop}

theorem zq {b:Bool} {Q:SY->Tc->Prop} (I:Inv X pins σ H s) (e:H a=some (.ins C dx fs)) (c:AG X.K C) (n:lg X.K C f) (l:fs.lookup f=some v)
  (h:∀ u s',Inv X pins σ H s'->RelV v u->Q u s'):Te (model X.prog X.w) A (getAttr (.ref a) f b) Q E s:=by
 obtain⟨mA,O,r,_,_,_⟩:=xM I.hok e;obtain⟨u,hu,ru⟩:=sG.some_of (v:=v) (o:=mA f) (by rw [<- l]; exact r f);exact Fy I.kIn O (c.get f) c.hd n hu (C0 ru) (h u _ (I.tok _) ru)

theorem AA {m:Str} {g:S3} {pl:Sem Bool} {Q:SY×List SY->Tc->Prop} (I:Inv X pins σ H s) (e:H a=some (.ins C dx fs)) (c:AG X.K C) (k:Meth X.K C m g) (l:fs.lookup m=none)
  (h:Q (.ref g,[.ref a]) s):Te (model X.prog X.w) A (getMethod (.ref a) m pl) Q E s:=by
 obtain⟨mA,O,r,_,_,_⟩:=xM I.hok e;have hn:mA m=none:=sG.none_of (by rw [<- l]; exact r m);exact E7 I.kIn O (c.get m) k.at_ k.fn hn h

theorem Aq {y:V} {u:SY} {Q:Unit->Tc->Prop} (I:Inv X pins σ H s) (e:H a=some (.ins C dx fs)) (c:AG X.K C) (n:lg X.K C f) (hl:fs.length < 1000) (ry:RelV y u)
  (h:∀ s',Inv X pins σ (upd H a (.ins C dx (mh f y fs))) s'->Q () s'):Te (model X.prog X.w) A (setAttr (.ref a) f u) Q E s:=by
 obtain⟨mA,O,r,wi,_,ho⟩:=xM I.hok e;have hz:(fs.map (·.1)).length<=S6:=by rw [Pr,Tx]; omega
 refine Ho I.kIn O c.sa c.po n.taker c.hd wi hz fun h' O' sb=>h _ ?_;have hd:∃ o,h'.get? dx=some o:=let ⟨o,_,_,e',_⟩:=O'.ns; ⟨o,e'⟩
 refine I.write (x:=a) (e:=dx) (by rw [e]; exact True.intro) (.inr ho) (fun b q hb z=>(sb.2 b hb).trans z) hd ?_;refine⟨by rw [aE O.ne]; exact ho,?_,O.ne,O'.obj,_,O'.ns,fun g=>?_,fun g hg=>?_⟩
 ·have:=rd f y fs; omega
 ·show sG ((mh f y fs).lookup g) (if g=f then some u else mA g);rw [rg];by_cases q:g=f
  ·rw [if_pos q,if_pos q]; exact ry
  ·rw [if_neg q,if_neg q]; exact r g
 ·by_cases q:g=f
  ·rw [q]; exact(p5 f y fs).1
  ·refine(p5 f y fs).2 g (wi g fun z=>hg ?_);show (if g=f then some u else mA g)=none;rw [if_neg q]; exact z

theorem Inv.made (I:Inv X pins σ H s):Inv X pins σ (upd (upd H s.heap.objs.size (.own (s.heap.objs.size+1))) (s.heap.objs.size+1) (.ins C s.heap.objs.size []))
  { s with heap:=(s.heap.push RY).push (RJ C s.heap.objs.size) }:=by
 have e1:(s.heap.push RY).get? s.heap.objs.size=some RY:=Sq s.heap rfl;have e2:((s.heap.push RY).push (RJ C s.heap.objs.size)).get? (s.heap.objs.size+1)=some (RJ C s.heap.objs.size):=by
  have:=Sq (s.heap.push RY) (o:=RJ C s.heap.objs.size) rfl
  rwa [Sr] at this
 have e3:(s.heap.push RY).Ns s.heap.objs.size (fun _=>none):=⟨RY,#[],_,e1,rfl,(fun e he=>absurd he (by simp)),fun _=>rfl⟩
 have I1:=I.laid (a:=s.heap.objs.size) (o:=.own (s.heap.objs.size+1)) (h':=s.heap.push RY) (t':=s.toks) (fun b u q=>Sn _ q) (Ph _) ⟨_,e1⟩;refine I1.laid (a:=s.heap.objs.size+1) (o:=.ins C s.heap.objs.size []) (t':=s.toks) (fun b u q=>Sn _ q) (Pt (Sr _ _)) ?_;have ne:s.heap.objs.size≠s.heap.objs.size+1:=O1 (Nat.lt_succ_self _);refine⟨by rw [aE ne,aQ],Pu _,ne,e2,fun _=>none,(Heap.Ns1.of_empty e3).at fun o q=>Sn _ q,fun _=>True.intro,fun y hy=>absurd rfl hy⟩

theorem GP {prog:S0} {w:SZ} {env:Env} {e:Tf} {f:Str} {pos:Pos} {s:Tc} {Q:SY->Tc->Prop} (hb:TB e f env (eval e env)=eval e env)
  (h:Te (model prog w) A (eval e env) (fun o s₁=>Te (model prog w) A (getAttr o f true) Q E s₁) E s):Te (model prog w) A (eval (.Attribute e f pos) env) Q E s :=
 Attribute_any_ h (by rw [arm_eval_Attribute,hb])
end

def My (K:RL) (ta:TE) (f:Str):TE:=fun σ H Q=>ta σ H fun x H1=>∃ a C dx fs v,x=.ref a/\H1 a=some (.ins C dx fs)/\AG K C/\lg K C f/\fs.lookup f=some v/\Q v H1
def ML (K:RL) (ta tv:TE) (f:Str):TS:=fun D σ H=>tv σ H fun y H1=>ta σ H1 fun x H2=>∃ a C dx fs,x=.ref a/\H2 a=some (.ins C dx fs)/\AG K C/\lg K C f/\fs.length < 1000 /\
 D.nx σ (upd H2 a (.ins C dx (mh f y fs)))
section
variable {X:Cx} {o e value:Tf} {f:Str} {pos pos' tpos:Pos} {ta tv:TE}
theorem Ja (he:PE X e ta) (hb:TB e f X.env (eval e X.env)=eval e X.env):PE X (.Attribute e f pos) (My X.K ta f):=by
 intro pins s σ H Q I h;refine GP hb (eZ (he pins s σ H _ I h) fun u s1 ⟨x,H1,I1,rx,a,C,dx,fs,v,ex,ea,c,n,l,q⟩=>?_);subst ex;obtain rfl:u=Value.ref a:=rx;exact zq I1 ea c n l fun u' s2 I2 ru=>⟨v,H1,I2,ru,q⟩
theorem Jj (ha:PE X o ta) (hv:PE X value tv) (hs:swapsWith value (some (.Attribute o f pos')) pos.line X.env=pure false):PS X (.Assign [.Attribute o f pos'] value pos) (ML X.K ta tv f):=by
 intro pins s σ H D I h;refine plainObj_wpAny_Assign_Attribute (eZ (hv pins s σ H _ I h) fun u s1 ⟨y,H1,I1,ry,q⟩=>eZ (ha pins s1 σ H1 _ I1 q) fun ov s2 ⟨x,H2,I2,rx,a,C,dx,fs,ex,ea,c,n,l,q2⟩=>?_) hs;subst ex;obtain rfl:ov=Value.ref a:=rx;exact Aq I2 ea c n l ry fun s3 I3=>⟨σ,_,I3,q2⟩
theorem yq {pl:Sem Bool} {m:Str} {apos:Pos} {args:List Tf} {pins:List (S3×Obj)} {s:Tc} {σ:St} {H:Hp} {Q:SY->Tc->Prop} {te:TE} (he:PE X e te) (I:Inv X pins σ H s)
  (h:te σ H fun x H1=>∃ a C dx fs g,x=.ref a/\H1 a=some (.ins C dx fs)/\AG X.K C/\Meth X.K C m g/\fs.lookup m=none /\
   ∀ s1,Inv X pins σ H1 s1->Te (model X.prog X.w) X.A (TC pos (.ref g) [.ref a] (backTo pos (Tg args X.env)) (backToKw pos (TF [] X.env))) Q X.xe s1)
  (ht:eval (.Call (.Attribute e m apos) args [] pos) X.env=(do
   let ov <- eval e X.env
   standAt apos.atName
   let (f,first) <- holding [ov] (getMethod ov m pl)
   TC pos f first (backTo pos (Tg args X.env)) (backToKw pos (TF [] X.env)))) :
  Te (model X.prog X.w) X.A (eval (.Call (.Attribute e m apos) args [] pos) X.env) Q X.xe s:=by
 refine PySem.W.methodCall_KW (pl:=pl) (eZ (he pins s σ H _ I h) fun u s1 ⟨x,H1,I1,rx,a,C,dx,fs,g,ex,ea,c,k,l,q⟩=>?_) ht;subst ex;obtain rfl:u=Value.ref a:=rx;exact AA I1 ea c k l (q s1 I1)
end

end L2

namespace L2
open PySem PySem.Spec PyProof.Rows

structure fN (k:Nat) (A:Tb):Prop where
 hd:A.handled=none
 dp:A.depth+3*k+5 < TH
 un:A.units+16*k+200 < TJ
theorem fN.mono {j k:Nat} {A:Tb} (r:fN k A) (h:j<=k):fN j A:=⟨r.hd,by have:=r.dp; omega,by have:=r.un; omega⟩
theorem fN.deeper {k:Nat} {A:Tb} (r:fN (k+1) A) (env:Env):fN k (A.deeper env) :=
 ⟨r.hd,by have:=r.dp; show A.depth+1+3*k+5 < _; omega,by have:=r.un; show A.units+3+16*k+200 < _; omega⟩
theorem Aa {A:Tb} {C:S3} {us:List SY} {kw:List (Str×SY)}:(A.under (.builtin "type.__call__" ⟨.ref C::us,kw⟩)).depth=A.depth+1:=by
 first | rfl | simp [Around.under,Code.weight,Code.isCreation,Code.isGuard,Code.isCaller,Code.frames,Code.isFrame,guardIds]
theorem AH {A:Tb} {C:S3} {us:List SY} {kw:List (Str×SY)}:(A.under (.builtin "type.__call__" ⟨.ref C::us,kw⟩)).units=A.units+1:=by
 first | rfl | simp [Around.under,Code.cUnits,Code.frames,Code.isFrame]
theorem fN.make {k:Nat} {A:Tb} (r:fN (k+1) A) (C:S3) (us:List SY) (kw:List (Str×SY)):fN k (A.under (.builtin "type.__call__" ⟨.ref C::us,kw⟩)) :=
 ⟨r.hd,by have:=r.dp; rw [Aa]; omega,by have:=r.un; rw [AH]; omega⟩
theorem fN.depth {k:Nat} {A:Tb} (r:fN k A):A.depth < TH:=by have:=r.dp; omega
theorem fN.units {k:Nat} {A:Tb} (r:fN k A):A.units+64 < TJ:=by have:=r.un; omega
def Ms:TA:=fun _ H Q=>Q [] H
def Lg (ta:TE) (tr:TA):TA:=fun σ H Q=>ta σ H fun x H1=>tr σ H1 fun xs H2=>Q (x::xs) H2
section
variable {X:Cx} {e:Tf} {es:List Tf} {te:TE} {t:TA} {pos:Pos}
theorem qf:PA X [] Ms:=fun _ _ _ _ H Q I h=>Calls.spliced_nil ⟨[],H,I,.nil,h⟩
theorem lG (ha:PE X e te) (hr:PA X es t) (hs:Tg (e::es) X.env=(false,eval e X.env)::Tg es X.env:=by rfl):PA X (e::es) (Lg te t):=by
 intro pos pins s σ H Q I h;rw [hs];show Te _ _ (spliced ((false,eval e X.env)::backTo pos (Tg es X.env))) _ _ s;refine Calls.spliced_cons (eZ (ha pins s σ H _ I h) fun u s1 ⟨x,H1,I1,r1,q1⟩=>?_);exact eZ (hr pos pins s1 σ H1 _ I1 q1) fun us s2 ⟨xs,H2,I2,r2,q2⟩=>⟨x::xs,H2,I2,.cons r1 r2,q2⟩

def Of (t:TA):TE:=fun σ H Q=>t σ H fun xs H1=>xs.length<=S6/\∀ p,H1 p=none->Q (.ref p) (upd H1 p (.tup xs))
def Ny (t:TA):TE:=fun σ H Q=>t σ H fun xs H1=>xs.length<=S6/\∀ p,H1 p=none->Q (.ref p) (upd H1 p (.lst xs))
theorem IB {x1} (h:PA X es t):PE X (.Tuple es x1 pos) (Of t):=by
 intro pins s σ H Q I hq;refine wpAny_Tuple_spliced (eZ (h pos pins s σ H _ I hq) fun us s1 ⟨xs,H1,I1,r,z,q⟩=>⟨by rw [<- r.length]; exact z,?_⟩);have hf:H1 s1.heap.objs.size=none:=I1.hok.fresh (Ph _);refine⟨.ref s1.heap.objs.size,upd H1 s1.heap.objs.size (.tup xs),I1.laid (t':=s1.toks) (fun b u e=>Sn _ e) (Ph _) ?_,rfl,q _ hf⟩;exact⟨z,us,r,⟨_,Sq _ rfl,rfl,_,rfl⟩⟩
theorem Az (h:PA X es t):PE X (.List es pos) (Ny t):=by
 intro pins s σ H Q I hq;refine wpAny_List_spliced (eZ (h pos pins s σ H _ I hq) fun us s1 ⟨xs,H1,I1,r,z,q⟩=>⟨by rw [<- r.length]; exact z,?_⟩);have hf:H1 s1.heap.objs.size=none:=I1.hok.fresh (Ph _);refine⟨.ref s1.heap.objs.size,upd H1 s1.heap.objs.size (.lst xs),I1.laid (t':=s1.toks) (fun b u e=>Sn _ e) (Ph _) ?_,rfl,q _ hf⟩;exact⟨z,us,0,r,Sq _ rfl⟩
end

abbrev Sp:=List V->Hp->VK->XK->Prop
abbrev An:=List Env->Hp->Tc->XK->SY->Tc->Prop

structure B9 (P:S0) (w:SZ) (K:RL) (mg:Str->Option SY) (base:S5) (A:Tb) (outer:List Env) (s:Tc) (H:Hp):Prop where
 frames:A.frames=some outer
 mod:Mod K mg base
 bs:∀ b o,base.get? b=some o->s.heap.get? b=some o/\H b=none
 bsz:base.objs.size<=s.heap.objs.size
 funs:s.heap.FunFrames base outer
 frf:∀ b∈frs outer,H b=none
 hok:pA P w H s.heap
 bare:AllBare s.gens
def CE (outer:List Env) (P:S0) (w:SZ) (H:Hp) (s:Tc) (Q:VK) (u:SY) (s':Tc):Prop :=
 ∃ v H',s'.os=s.os/\AllBare s'.gens/\Un (frs outer) [] H H' s.heap s'.heap/\pA P w H' s'.heap/\RelV v u/\Q v H'
def CR (CX:An) (outer:List Env) (P:S0) (w:SZ) (H:Hp) (s:Tc) (Q:VK) (E:XK) (r:Result) (s':Tc):Prop :=
 match r with
 | .ok (.ret u)=>CE outer P w H s Q u s'
 | .ok _=>False
 | .error e=>CX outer H s E e s'
structure jI (P:S0) (w:SZ) (K:RL) (mg:Str->Option SY) (base:S5) (CX:An) (k:Nat) (f:S3) (fd:TK) (ps:List Str) (sp:Sp):Prop where
 len:∀ vs H Q E,sp vs H Q E->vs.length=ps.length
 run:∀ (A:Tb) (outer:List Env) (s:Tc) (H:Hp) (args:Args) (us:List SY) (vs:List V) (Q:VK) (E:XK),fN k A->B9 P w K mg base A outer s H->TL s fd args (ps.zip us)->Vals vs us->sp vs H Q E ->
  Tz (model P w) A (.call (.ref f) args) (CR CX outer P w H s Q E) s
theorem jI.mono {P:S0} {w:SZ} {K:RL} {mg:Str->Option SY} {base:S5} {CX:An} {j k:Nat} {f:S3} {fd:TK} {ps:List Str} {sp:Sp} (F:jI P w K mg base CX j f fd ps sp) (h:j<=k) :
  jI P w K mg base CX k f fd ps sp:=⟨F.len,fun A outer s H args us vs Q E hr=>F.run A outer s H args us vs Q E (hr.mono h)⟩
theorem B9.make {P:S0} {w:SZ} {K:RL} {mg:Str->Option SY} {base:S5} {A:Tb} {outer:List Env} {s:Tc} {H:Hp} (e:B9 P w K mg base A outer s H) (C:S3) (us:List SY) (kw:List (Str×SY)) :
  B9 P w K mg base (A.under (.builtin "type.__call__" ⟨.ref C::us,kw⟩)) outer s H:=⟨by first | exact e.frames | (simpa [Around.under,Code.envs,Code.isFrame,pushEnvs] using e.frames),e.mod,e.bs,e.bsz,e.funs,e.frf,e.hok,e.bare⟩
section
variable {X:Cx} {pins:List (S3×Obj)} {σ:St} {H:Hp} {s s':Tc}
theorem Inv.env0 (I:Inv X pins σ H s):B9 X.prog X.w X.K X.mg X.base X.A X.stack s H :=
 ⟨I.ok.frames,I.ok.mod,I.bs,O2 I.ok.bsz I.sz,I.stack,I.stkFree,I.hok,I.bare⟩
theorem Inv.after {Q:VK} {u:SY} (I:Inv X pins σ H s) (h:CE X.stack X.prog X.w H s Q u s'):EP X pins σ Q u s':=by
 obtain⟨v,H',os,bare,un,hok,r,q⟩:=h;obtain⟨hh,g,d,t,os'⟩:=s';obtain rfl:os'=s.os:=os;exact⟨v,H',I.call (h':=hh) (g':=g) (d':=d) (t':=t) (ch:=[]) un hok bare (fun b z=>absurd z (by simp)),r,q⟩
end

def J8 (C:S3) (sp:Sp) (dvs:List V) (E:XK) (t:TA):TE:=fun σ H Q=>t σ H fun vs H1=>∀ x dx,H1 x=none->H1 dx=none->dx≠x ->
 sp (.ref x::(vs++dvs)) (upd (upd H1 dx (.own x)) x (.ins C dx [])) (fun v H2=>v=.non/\Q (.ref x) H2) E

def Binds (K:RL) (fd:TK) (ps:List Str) (ds:List SY):Prop :=
 ∀ (s:Tc) (us:List SY),K.In s.heap->(us++ds).length=ps.length->TL s fd ⟨us,[]⟩ (ps.zip (us++ds))
theorem Binds.all {K:RL} {fd:TK} {ps:List Str} (h:∀ us:List SY,us.length=ps.length->bindArgs fd ⟨us,[]⟩=pure (ps.zip us)):Binds K fd ps []:=fun s us _ hl=>by
 rw [Pw] at hl ⊢;exact .of_eq (h us hl)

def Ai (CX:An) (X:Cx) (E:XK):Prop:=∀ (pins:List (S3×Obj)) (σ:St) (H:Hp) (s:Tc) (e:SY) (s':Tc),Inv X pins σ H s->CX X.stack H s E e s'->X.xe e s'

section
variable {X:Cx} {CX:An} {k:Nat} {f C:S3} {fd:TK} {ps:List Str} {sp:Sp} {dvs:List V} {ds:List SY} {E:XK} {x m:Str} {p pos apos:Pos} {e o:Tf} {es:List Tf} {ta:TE} {t:TA}

structure Mk (K:RL) (C f:S3):Prop where
 makes:RX K C=true
 init:RP K (.ref C) "__init__"=some (some (.ref f))
 fn:RU K (.ref f)=true
 kp:RZ K (.ref C)=true

theorem DX {pins:List (S3×Obj)} {σ:St} {H:Hp} {s:Tc} {Q:VK} {us:List SY} {vs:List V} (M:Mk X.K C f) (F:jI X.prog X.w X.K X.mg X.base CX k f fd ps sp) (hr:fN (k+1) X.A) (hb:Binds X.K fd ps ds) (hd:Vals dvs ds)
  (hx:Ai CX X E) (I:Inv X pins σ H s) (r:Vals vs us)
  (h:∀ x dx,H x=none->H dx=none->dx≠x->sp (.ref x::(vs++dvs)) (upd (upd H dx (.own x)) x (.ins C dx [])) (fun v H2=>v=.non/\Q (.ref x) H2) E) :
  Te (model X.prog X.w) X.A (call (.ref C) us) (EP X pins σ Q) X.xe s:=by
 have hq:=h (s.heap.objs.size+1) s.heap.objs.size (I.hok.fresh (Px _)) (I.hok.fresh (Ph _)) (O1 (Nat.lt_succ_self _));have I2:=Inv.made (C:=C) I;have r2:Vals (V.ref (s.heap.objs.size+1)::(vs++dvs)) (Value.ref (s.heap.objs.size+1)::(us++ds)):=.cons rfl (r.append hd);have hl:(Value.ref (s.heap.objs.size+1)::us++ds).length=ps.length:=by
  have e:=r2.length;rw [F.len _ _ _ _ hq] at e;exact e.symm
 refine wpAny_call (Fm (f:=f) I.kIn M.makes M.init (beq_iff_eq.mp M.fn) (TN (F.run _ X.stack _ _ ⟨Value.ref (s.heap.objs.size+1)::us,[]⟩ (Value.ref (s.heap.objs.size+1)::(us++ds)) _ _ E (hr.make C us [])
  (I2.env0.make C us []) (hb _ (Value.ref (s.heap.objs.size+1)::us) I2.kIn hl) r2 hq) fun r s' hq'=>?_))
 cases r with
 | error e=>exact hx pins σ _ _ e s' I2 hq'
 | ok fl =>
  cases fl with
  | ret u =>
   obtain⟨v,H',I3,rv,ev,q3⟩:=I2.after hq';subst ev;exact⟨rv,⟨V.ref (s.heap.objs.size+1),H',I3,rfl,q3⟩⟩
  | next=>exact False.elim hq'
  | brk=>exact False.elim hq'
  | cont=>exact False.elim hq'
theorem Gh (M:Mk X.K C f) (F:jI X.prog X.w X.K X.mg X.base CX k f fd ps sp) (hr:fN (k+1) X.A) (hg:Gl X x) (hm:X.mg x=some (.ref C)) (hb:Binds X.K fd ps ds) (hd:Vals dvs ds) (hx:Ai CX X E)
  (ha:PA X (e::es) t) (hdb:(x==("__debug__":Str))=false:=by decide) (he:Tg (e::es) X.env=(false,eval e X.env)::Tg es X.env:=by rfl) (hpl:(backTo pos (Tg es X.env)).any (·.1)=false:=by rfl) :
  PE X (.Call (.Name x p) (e::es) [] pos) (J8 C sp dvs E t):=by
 intro pins s σ H Q I h;refine TQ (xG I hg hm ?_ hdb);refine R0 (h₀:=X.base) I.ok.mod.kin M.kp (eZ (ha pos pins s σ H _ I h) fun us s1 ⟨vs,H1,I1,r,q⟩=>⟨I1.kIn,?_⟩) he hpl;exact DX M F hr hb hd hx I1 r q
end


structure aU (N P:List Str) (sc:Td):Prop where
 kind:sc.kind=.function
 co:sc.isCoroutine=false
 gen:sc.isGenerator=false
 nd:N.Nodup
 pre:N.take P.length=P
 par:∀ x∈P,sc.names.lookup x=some .local\/sc.names.lookup x=some .cell
 nofree:∀ y∈sc.names,y.2≠.free

theorem vM {kindOf:Str->Option TR} {x:Str}:∀ {binds:List (Str×SY)} {m:Str->Option SY},(∀ v,(x,v)∉binds)->bindL kindOf binds m x=m x
 | [],_,_=>rfl
 | (n,v)::r,m,h=>by
  unfold bindL;rw [vM fun w hw=>h w (O7 _ hw)];split
  ·have:x≠n:=(by rintro rfl; exact h v O6);simp [this]
  ·rfl
theorem wf {kindOf:Str->Option TR} {x:Str}:∀ {binds:List (Str×SY)} {m:Str->Option SY},(∀ v,(x,v)∉binds)->bindC kindOf binds m x=m x
 | [],_,_=>rfl
 | (n,v)::r,m,h=>by
  unfold bindC;rw [wf fun w hw=>h w (O7 _ hw)];split
  ·rfl
  ·have:x≠n:=(by rintro rfl; exact h v O6);simp [this]
theorem vg {kindOf:Str->Option TR} {x:Str} {v:SY}:∀ {P:List Str} {vs:List SY} {i:Nat} {m:Str->Option SY},P.Nodup->P[i]?=some x->vs[i]?=some v->kindOf x=some .local ->
  bindL kindOf (P.zip vs) m x=some v
 | [],_,_,_,_,h,_,_=>by simp at h
 | _::_,[],_,_,_,_,h,_=>by simp at h
 | p::P,w::vs,0,m,nd,h1,h2,hk=>by
  simp at h1 h2; subst h1; subst h2;show bindL kindOf ((p,w)::P.zip vs) m p=_;unfold bindL;rw [vM fun v hv=>(List.nodup_cons.mp nd).1 (Py hv).1,if_pos hk];simp
 | p::P,w::vs,i+1,m,nd,h1,h2,hk=>by
  show bindL kindOf ((p,w)::P.zip vs) m x=_;unfold bindL;exact vg (i:=i) (List.nodup_cons.mp nd).2 (by simpa using h1) (by simpa using h2) hk
theorem wc {kindOf:Str->Option TR} {x:Str} {v:SY}:∀ {P:List Str} {vs:List SY} {i:Nat} {m:Str->Option SY},P.Nodup->P[i]?=some x->vs[i]?=some v->kindOf x≠some .local ->
  bindC kindOf (P.zip vs) m x=some v
 | [],_,_,_,_,h,_,_=>by simp at h
 | _::_,[],_,_,_,_,h,_=>by simp at h
 | p::P,w::vs,0,m,nd,h1,h2,hk=>by
  simp at h1 h2; subst h1; subst h2;show bindC kindOf ((p,w)::P.zip vs) m p=_;unfold bindC;rw [wf fun v hv=>(List.nodup_cons.mp nd).1 (Py hv).1,if_neg hk];simp
 | p::P,w::vs,i+1,m,nd,h1,h2,hk=>by
  show bindC kindOf ((p,w)::P.zip vs) m x=_;unfold bindC;exact wc (i:=i) (List.nodup_cons.mp nd).2 (by simpa using h1) (by simpa using h2) hk

def start (N:List Str) (vs:List V):St:=vs.map some++List.replicate (N.length - vs.length) none

def j5 (CX:An) (P:S0) (w:SZ) (K:RL) (mg:Str->Option SY) (base:S5) (N:List Str) (qual:Str) (scope:Td) (f:S3) (cd:SY) (A:Tb) (outer:List Env) (s:Tc) (H:Hp) (E:XK):Cx where
 prog:=P
 w:=w
 K:=K
 mg:=mg
 base:=base
 A:=A.deeper (envOfC qual scope s.heap.objs.size f cd)
 N:=N
 s₀:=s
 H₀:=H
 env:=envOfC qual scope s.heap.objs.size f cd
 outer:=outer
 stack:=envOfC qual scope s.heap.objs.size f cd::outer
 ex:=[]
 calm:=true
 fn:=fun _=>true
 pn:=[]
 xe:=fun e s'=>Te (model P w) (A.deeper (envOfC qual scope s.heap.objs.size f cd)) (leaving (envOfC qual scope s.heap.objs.size f cd) e) (fun _ s''=>CX outer H s E e s'') (fun e' s''=>CX outer H s E e' s'') s'

theorem yd {sc:Td} {n:Nat} {x:Str} (h:sc.names.lookup x=some .cell):∃ c,(cellsFrom n sc.names []).lookup x=some c:=by
 have q:=R1 sc.names n [] (.inl h);exact Option.isSome_iff_exists.mp q

theorem BJ {CX:An} {P:S0} {w:SZ} {K:RL} {mg:Str->Option SY} {base:S5} {N ps:List Str} {qual:Str} {scope:Td} {f:S3} {cd:SY} {A:Tb} {outer:List Env} {s s1:Tc} {H:Hp} {E:XK} {us:List SY} {vs:List V}
  (S:aU N ps scope) (hd:A.handled=none) (e0:B9 P w K mg base A outer s H) (hl:vs.length=ps.length) (r:Vals vs us)
  (x:InCallC s s.heap.objs.size (bindL (envOfC qual scope s.heap.objs.size f cd).kindOf (ps.zip us) fun _=>none) (cellsFrom (s.heap.objs.size+1) scope.names []) (bindC (envOfC qual scope s.heap.objs.size f cd).kindOf (ps.zip us) fun _=>none) s1) :
  Inv (j5 CX P w K mg base N qual scope f cd A outer s H E) [] (start N vs) H s1:=by
 have hpl:ps.length<=N.length:=by have:=congrArg List.length S.pre; rw [Pz] at this; omega
 obtain⟨h1,tk,rfl,hk⟩:=x.done;have noA:∀ b:S3,b∉(j5 CX P w K mg base N qual scope f cd A outer s H E).ex:=fun b z=>absurd (show b∈([]:List S3) from z) (by simp);refine⟨⟨e0.mod,S.kind,rfl,rfl,Ph _,fun y z c h1 h2=>?_,fun y hy=>?_,fun y c _ h=>?_,fun _=>hd,Around.frames_deeper e0.frames,.inr ⟨rfl,rfl⟩,fun b z=>absurd z (noA b),e0.bs,e0.bsz,fun b _ _=>noA b,fun b z=>absurd z (noA b),e0.funs,e0.frf⟩,
  rfl,e0.bare,Un.kept hk,⟨_,x.toInCall.ns,fun i y v h1 h2 h3=>?_⟩,fun y c h=>⟨_,x.cell y c h⟩,e0.hok.fresh (Ph _),fun y c h=>?_,fun p hp=>absurd (show p∈([]:List (S3×Obj)) from hp) (by simp),e0.hok.kept hk,?_⟩
 ·exact name_of_addr x.apart (PySem.mem_of_lookup h1) (PySem.mem_of_lookup h2)
 ·have hy:scope.names.lookup y=some .cell\/scope.names.lookup y=some .free:=hy;rcases hy with hy | hy
  ·exact yd hy
  ·exact absurd rfl (S.nofree _ (PySem.mem_of_lookup hy))
 ·exact O3 (x.above y c (PySem.mem_of_lookup h))
 ·have hi:i < vs.length:=by
   unfold start at h2;by_cases hi:i < vs.length
   ·exact hi
   ·rw [PB (by simpa using hi)] at h2;rw [PC] at h2;split at h2 <;> cases h2
  have ha:vs[i]?=some v:=by
   unfold start at h2;rw [PD (by simpa using hi),PF] at h2;cases e:vs[i]? with
   | none=>rw [e] at h2; cases h2
   | some a=>rw [e] at h2; cases h2; rfl
  obtain⟨u,hu,rv⟩:=r.get ha;have hp:ps[i]?=some y:=by
   rw [<- S.pre,List.getElem?_take_of_lt ‹0›]; exact h1
  have ndP:ps.Nodup:=by rw [<- S.pre]; exact S.nd.sublist (PH _ _)
  refine⟨u,rv,?_⟩;rcases S.par y (PJ hp) with k | k
  ·exact .inl ⟨k,vg ndP hp hu k⟩
  ·obtain⟨c,e⟩:=yd (n:=s.heap.objs.size+1) k;refine .inr ⟨.inl k,c,e,?_⟩;have q:=x.cell y c e;rw [wc ndP hp hu (by show scope.names.lookup y≠_; rw [k]; decide)] at q;exact q
 ·exact e0.hok.fresh (O3 (x.above y c (PySem.mem_of_lookup h)))
 ·unfold start;show _=N.length;rw [PK,Pr,List.length_replicate];omega

theorem En {CX:An} {P:S0} {w:SZ} {K:RL} {mg:Str->Option SY} {base:S5} {k:Nat} {f:S3} {name qual:Str} {params:TU} {body:List Th} {scope:Td} {dV kV doc pm cdv ct oc:SY} {an od:Option S3}
  {osl:Array (Option SY)} {N ps:List Str} {sp:Sp} (lk:K.lookup f=some ⟨oc,od,.func (R3 name qual params body scope dV kV doc pm an cdv ct),osl⟩) (hcd:R4 K cdv qual=true) (S:aU N ps scope)
  (len:∀ vs H Q E,sp vs H Q E->vs.length=ps.length)
  (hbody:∀ (A:Tb) (outer:List Env) (s:Tc) (H:Hp) (vs:List V) (Q:VK) (E:XK),fN k (A.deeper (envOfC qual scope s.heap.objs.size f cdv))->sp vs H Q E ->
   ∃ t,x6 (j5 CX P w K mg base N qual scope f cdv A outer s H E) body t/\t { nx:=fun _ H'=>Q .non H',rt:=Q } (start N vs) H) :
  jI P w K mg base CX (k+1) f (R3 name qual params body scope dV kV doc pm an cdv ct) ps sp:=by
 refine⟨len,fun A outer s H args us vs Q E hr e0 hb r hsp=>?_⟩;have hl:=len _ _ _ _ hsp;have KX:K.In s.heap:=e0.mod.kin.keeps fun b o e=>(e0.bs b o e).1;have lim:s.heap.NoLimit:=e0.mod.nolimit.keeps fun b o e=>(e0.bs b o e).1;have hkind:∀ y∈ps.zip us,scope.names.lookup y.1=some .local\/(scope.names.lookup y.1=some .cell/\((cellsFrom (s.heap.objs.size+1) scope.names []).lookup y.1).isSome=true):=fun ⟨n,v⟩ hy=>by
  rcases S.par n (Py hy).1 with q | q
  ·exact .inl q
  ·exact .inr ⟨q,R1 _ _ _ (.inl q)⟩
 refine codeAny_call_function hr.depth (KX _ _ lk) rfl S.co S.gen rfl (PySem.W.codeRec_of KX hcd) (hb _ _ _ _ ?_);refine wpAny_newFunctionEnv_cells S.kind hkind fun env he s1 x=>?_;subst he;refine⟨lim.keeps x.toInCall.keep,codeAny_func ?_⟩;obtain⟨t,ht,hq⟩:=hbody A outer s H vs Q E (hr.deeper _) hsp;have I:Inv (j5 CX P w K mg base N qual scope f cdv A outer s H E) [] (start N vs) H s1:=BJ S hr.hd e0 hl r x;refine Ti (ht [] s1 (start N vs) H _ I hq) (fun fl s' hs=>?_) fun e s' hs=>hs;have fin:∀ {σ':St} {H':Hp} {v:V} {u:SY},Inv (j5 CX P w K mg base N qual scope f cdv A outer s H E) [] σ' H' s'->RelV v u->Q v H'->CE outer P w H s Q u s' :=
  fun {σ' H' v u} J rv q=>⟨v,H',J.os,J.bare,J.base,J.hok,rv,q⟩
 cases fl with
 | ret u =>
  obtain⟨v,σ',H',J,rv,q⟩:=hs;exact fin J rv q
 | next =>
  obtain⟨σ',H',J,q⟩:=hs;exact fin (v:=V.non) (u:=Value.none) J rfl q
 | brk =>
  obtain⟨_,_,_,q⟩:=hs;exact False.elim q
 | cont =>
  obtain⟨_,_,_,q⟩:=hs;exact False.elim q
end L2

namespace L2
open PySem PySem.Spec PyProof.Rows
section
variable {X:Cx} {x:Str} {p pos:Pos} {e:Tf} {es:List Tf} {t:TA} {id T:String} {r:List V->Hp->VK->Prop}

def MY (r:List V->Hp->VK->Prop) (t:TA):TE:=fun σ H Q=>t σ H fun vs H1=>r vs H1 Q
theorem xQ (hc:eA X (.builtin id) r) (hg:Gl X x) (hm:X.mg x=none) (hv:Ta x=some (.builtin id)) (ha:PA X (e::es) t) (hn:x ≠ "__name__":=by decide) (hdb:(x==("__debug__":Str))=false:=by decide)
  (he:Tg (e::es) X.env=(false,eval e X.env)::Tg es X.env:=by rfl) (hpl:(backTo pos (Tg es X.env)).any (·.1)=false:=by rfl):PE X (.Call (.Name x p) (e::es) [] pos) (MY r t):=by
 intro pins s σ H Q I h;refine TQ (mU I hg hm hv ?_ hn hdb);exact PyProof.Rows.callWith_builtin1 (eZ (ha pos pins s σ H _ I h) fun us s1 ⟨vs,H1,I1,r1,q1⟩=>hc pins s1 σ H1 vs us Q I1 r1 q1) he hpl
theorem v9 (hc:eA X (.type T) r) (hg:Gl X x) (hm:X.mg x=none) (hv:Ta x=some (.type T)) (ha:PA X (e::es) t) (hn:x ≠ "__name__":=by decide) (hdb:(x==("__debug__":Str))=false:=by decide)
  (he:Tg (e::es) X.env=(false,eval e X.env)::Tg es X.env:=by rfl) (hpl:(backTo pos (Tg es X.env)).any (·.1)=false:=by rfl):PE X (.Call (.Name x p) (e::es) [] pos) (MY r t):=by
 intro pins s σ H Q I h;refine TQ (mU I hg hm hv ?_ hn hdb);exact Sy (eZ (ha pos pins s σ H _ I h) fun us s1 ⟨vs,H1,I1,r1,q1⟩=>hc pins s1 σ H1 vs us Q I1 r1 q1) he hpl
end
end L2

namespace HT
open PySem PyProof.Rows

theorem K8 (A:Tb) (s:Tc) (a:Int) (t:Tok) (c:Int) (u:Tok) (prog:S0) (w:SZ) (E:SY->Tc->Prop) (Q:SY->Tc->Prop) (h:Q (.bool (decide (a < c))) s) :
  Te (model prog w) A (richCompare .Lt (.int a t) (.int c u)) Q E s :=
 (PyProof.Rows.lt_int h:Te (model prog w) A (Tv .Lt (.int a t) (.int c u)) Q E s)

section
open PySem.SeqAt
open PySem.AutoSeq1 (wpAny_loadPart')
open PySem.MeetsSeq PySem.MeetsSeq2 PySem.MeetsSeq3

end

section
variable {prog:S0} {w:SZ} {A:Tb} {E:SY->Tc->Prop} {s:Tc}

theorem Mb {t b:S3} {vs ws:List SY} {Q:SY->Tc->Prop} (ht:S7 s.heap t vs.toArray) (hb:S7 s.heap b ws.toArray) (hv:vs≠[])
  (h1:ws=[]->Q (.ref t) s) (h2:ws≠[]->Q (.ref s.heap.objs.size) { s with heap:=s.heap.push { cls:=.type "tuple",data:=.seq (vs++ws).toArray } })
  (hsz:vs.length+ws.length<=S6):Te (model prog w) A (Tu .Add (.ref t) (.ref b)) Q E s:=by
 obtain⟨⟨cls,dd,data,sl⟩,ho,hc,n,hd⟩:=id ht;obtain⟨⟨cls2,dd2,data2,sl2⟩,ho2,hc2,n2,hd2⟩:=id hb;simp only at hc hd hc2 hd2;subst hc hd hc2 hd2;have e:vs.toArray++ws.toArray=(vs++ws).toArray:=by simp
 by_cases hw:ws=[]
 ·exact TV ⟨_,ho,rfl⟩ ⟨_,ho2,rfl⟩ TY TZ SN SR (SU _ _)
   (tuple_addW1 t b vs.toArray ws.toArray n n2 dd dd2 sl sl2 (by simpa using hv) (by simp [hw])) ⟨ho,ho2,h1 hw⟩
 ·refine TV ⟨_,ho,rfl⟩ ⟨_,ho2,rfl⟩ TY TZ SN SR (SU _ _)
   (tuple_addW2 t b vs.toArray ws.toArray n n2 dd dd2 sl sl2 (by simpa using hv) (by simpa using hw) (by rw [Pm,Pm]; exact hsz)) ⟨ho,ho2,?_⟩
  rw [e];exact h2 hw

def sIx (n d:Nat):Option Int->Nat
 | none=>d
 | some v=>if v < 0 then (v+(n:Int)).toNat else min v.toNat n
theorem J4 (n d:Nat):sIx n d none=d:=rfl
theorem Ma (n d k:Nat):sIx n d (some (k:Int))=min k n:=by
 show (if (k:Int) < 0 then ((k:Int)+(n:Int)).toNat else min (k:Int).toNat n)=min k n;rw [if_neg ‹0›,PL]
theorem Ik (n d:Nat) (hd:d<=n) (o:Option Int):sIx n d o<=n:=by
 cases o with
 | none=>exact hd
 | some v =>
  show (if v < 0 then (v+(n:Int)).toNat else min v.toNat n)<=n;by_cases hv:v < 0
  ·rw [if_pos hv]; omega
  ·rw [if_neg hv]; exact Nat.min_le_right _ _
theorem A5 (v:Int) (n d:Nat):(if v < 0 then max (v+(n:Int)) 0 else min v (n:Int))=((sIx n d (some v):Nat):Int):=by
 show (if v < 0 then max (v+(n:Int)) 0 else min v (n:Int))=(((if v < 0 then (v+(n:Int)).toNat else min v.toNat n):Nat):Int)
 by_cases hv:v < 0
 ·simp only [if_pos hv]; omega
 ·simp only [if_neg hv]; omega
theorem zz (lo hi:Option Int) (n:Nat):Builtin.Slice.sliceAdjust lo hi 1 (n:Int)=(((sIx n 0 lo:Nat):Int),((sIx n n hi:Nat):Int)):=by
 have h1:¬ ((1:Int) < 0):=by omega
 unfold Builtin.Slice.sliceAdjust;simp only [h1,if_false];refine Prod.ext ?_ ?_
 ·cases lo with
  | none=>rfl
  | some v=>exact A5 v n 0
 ·cases hi with
  | none=>rfl
  | some v=>exact A5 v n n
theorem zt (i j:Nat):Builtin.Slice.slicePlaces (i:Int) (j:Int) 1=j - i:=by
 unfold Builtin.Slice.slicePlaces;have h1:(1:Int) > 0:=by omega
 simp only [h1,if_true,Int.ediv_one];split <;> omega
theorem sK {v:SY} {o:Option Int} {Q:Option Int->Tc->Prop} (p:T2 v o) (h:Q o s):Te (model prog w) A (Builtin.Slice.slicePartIndex v) Q E s:=by
 cases p with
 | none=>exact slicePart_none h
 | int i t=>exact slicePart_int h
theorem qv {sl:S3} {vl vu:SY} {lo hi:Option Int} {n:Nat} {Q:Int×Int×Nat->Tc->Prop} (hs:s.heap.IsSliceOf sl vl vu .none) (pl:T2 vl lo) (pu:T2 vu hi)
  (h:Q (((sIx n 0 lo:Nat):Int),1,sIx n n hi - sIx n 0 lo) s):Te (model prog w) A (Builtin.Slice.sliceApplied (.ref sl) (pure (n:Int))) Q E s:=by
 obtain⟨os,hos,hcs,hds⟩:=id hs;unfold Builtin.Slice.sliceApplied Builtin.Slice.sliceFields;refine Tp (Tp (T3 hos hds (x:=vl) rfl (Tp (T3 hos hds (x:=vu) rfl (Tp (T3 hos hds (x:=.none) rfl (To ?_)))))));refine Tp (slicePart_none ?_);show Te _ _ (if ((1:Int)==0)=true then _ else _) _ _ s;rw [if_neg (by decide)];refine Tp (sK pl (Tp (sK pu (Tp (To ?_)))));show Te _ _ (match Builtin.Slice.sliceAdjust lo hi 1 (n:Int) with | (lo,hi)=>pure (lo,(1:Int),Builtin.Slice.slicePlaces lo hi 1)) _ _ s;rw [zz lo hi n];show Te _ _ (pure (((sIx n 0 lo:Nat):Int),(1:Int),Builtin.Slice.slicePlaces ((sIx n 0 lo:Nat):Int) ((sIx n n hi:Nat):Int) 1)) _ _ s;rw [zt];exact To h
theorem Fp (xs:Array SY) (i k:Nat):((List.range k).filterMap fun (m:Nat)=>xs[((i:Int)+(m:Int)*1).toNat]?).toArray=((xs.toList.drop i).take k).toArray:=by
 have e:(fun (m:Nat)=>xs[((i:Int)+(m:Int)*1).toNat]?)=fun m=>xs[i+m]?:=by
  funext m
  have:((i:Int)+(m:Int)*1).toNat=i+m:=by omega
  rw [this]
 rw [e]
 have:=pick_run xs i k
 rw [List.filterMap_map] at this;have e2:((fun x=>xs[x]?) ∘ fun x=>i+x)=fun m=>xs[i+m]?:=rfl;rw [e2] at this;rw [this]

theorem Bp {t sl:S3} {items:Array SY} {vl vu:SY} {lo hi:Option Int} {Q:SY->Tc->Prop} (ht:S7 s.heap t items) (hs:s.heap.IsSliceOf sl vl vu .none) (pl:T2 vl lo) (pu:T2 vu hi)
  (hw:¬ (sIx items.size 0 lo=0/\sIx items.size items.size hi=items.size))
  (h:Q (.ref s.heap.objs.size) { s with heap:=s.heap.push { cls:=.type "tuple",data:=.seq ((items.toList.drop (sIx items.size 0 lo)).take (sIx items.size items.size hi - sIx items.size 0 lo)).toArray } })
  (hsz:items.size<=S6):Te (model prog w) A (getItem (.ref t) (.ref sl)) Q E s:=by
 have htake:sizeOk (.seq ((items.toList.drop (sIx items.size 0 lo)).take (sIx items.size items.size hi - sIx items.size 0 lo)).toArray):=by
  show ((items.toList.drop (sIx items.size 0 lo)).take (sIx items.size items.size hi - sIx items.size 0 lo)).toArray.size<=S6;rw [Pm,Pz,PN,Array.length_toList];omega
 have hj:sIx items.size items.size hi<=items.size:=Ik _ _ (Ph _) hi;obtain⟨os,hos,hcs,hds⟩:=id hs;have hTs:s.TypeIs (.ref sl) "slice":=⟨os,hos,hcs⟩
 unfold getItem
 try with_reducible refine T5 ?_
 first | refine Tp (To ?_) | skip
 refine Tp (wpAny_sequenceKey ht.typeIs (by decide) ?_);refine Tp (T6 (name:=Str.ofString "__getitem__") ht.typeIs Sz
  (T7 Sz ht.typeIs entry_tuple_getitem ?_ (args_tuple_getitem _ _)))
 show Te _ _ (Builtin.Tuple.tupleItemsOf (.ref t) >>= _) _ _ s;refine Tp (tupleItemsOf_ ht ?_);refine Tp (T8 hTs ?_);rw [if_pos (by decide)];refine Tp (qv hs pl pu ?_);have hno:¬ ((((sIx items.size 0 lo:Nat):Int)==0 && (1:Int)==1 && (sIx items.size items.size hi - sIx items.size 0 lo)==items.size)=true):=by
  intro q;rw [PP,PP] at q;have q1:((sIx items.size 0 lo:Nat):Int)=0:=eq_of_beq q.1.1;have q2:sIx items.size items.size hi - sIx items.size 0 lo=items.size:=eq_of_beq q.2;exact hw ⟨by omega,by omega⟩
 show Te _ _ (if (((sIx items.size 0 lo:Nat):Int)==0 && (1:Int)==1 && (sIx items.size items.size hi - sIx items.size 0 lo)==items.size)=true then _ else _) _ _ s;rw [if_neg hno,Fp]
 first
  | exact Tp (m:=Builtin.Tuple.tupleExact _) (T9 (To ⟨_,rfl,To h⟩) htake)
  | exact Tp (m:=Builtin.Tuple.tupleExact _) (T9 (Tp (To (To ⟨_,rfl,To h⟩))) htake)
  | exact Tp (Tp (m:=Builtin.Tuple.tupleExact _) (T9 (To (To ⟨_,rfl,To h⟩)) htake))
  | exact Tp (Tp (m:=Builtin.Tuple.tupleExact _) (T9 (To ⟨_,rfl,To h⟩) htake))
end
end HT

namespace L2
open PySem PySem.Spec PyProof.Rows

abbrev TO:=St->Hp->(Option Int->Hp->Prop)->Prop
def PO (X:Cx) (e:Option Tf) (t:TO):Prop :=
 ∀ (pins:List (S3×Obj)) (s:Tc) (σ:St) (H:Hp) (Q:Option Int->Hp->Prop),Inv X pins σ H s->t σ H Q ->
  Te (model X.prog X.w) X.A (evalPart e X.env) (fun u s'=>∃ o H',Inv X pins σ H' s'/\T2 u o/\Q o H') X.xe s
def GU:TO:=fun _ H Q=>Q none H
def Ka (t:TE):TO:=fun σ H Q=>t σ H fun x H1=>∃ i,x=.int i/\Q (some i) H1

section
variable {X:Cx} {e:Tf} {te:TE} {lo hi:Option Tf} {tl th:TO} {pos p2:Pos}

theorem Gk:PO X none GU:=by
 intro pins s σ H Q I h;rw [Ua];exact To ⟨none,H,I,.none,h⟩
theorem Ha (h:PE X e te):PO X (some e) (Ka te):=by
 intro pins s σ H Q I hw;rw [evalPart_some];refine eZ (h pins s σ H _ I hw) fun u s1 ⟨x,H1,I1,r1,q1⟩=>?_;obtain⟨i,rfl,q⟩:=q1;obtain⟨t,rfl⟩:=r1;exact⟨some i,H1,I1,.int i t,q⟩

def LI (X:Cx) (r:V->Option Int->Option Int->Hp->VK->Prop):Prop :=
 ∀ (pins:List (S3×Obj)) (s:Tc) (σ:St) (H:Hp) (x:V) (v vl vu:SY) (lo hi:Option Int) (sl:S3) (Q:VK),Inv X pins σ H s->RelV x v->s.heap.IsSliceOf sl vl vu .none->T2 vl lo->T2 vu hi->r x lo hi H Q ->
  ∃ T id,typeLookup (.type T) "__getitem__"=pure (some (.builtin id))/\s.TypeIs v T/\Te (model X.prog X.w) X.A (getItem v (.ref sl)) (EP X pins σ Q) X.xe s
def OO (r:V->Option Int->Option Int->Hp->VK->Prop) (te:TE) (tl th:TO):TE:=fun σ H Q=>te σ H fun x H1=>tl σ H1 fun l H2=>th σ H2 fun u H3=>r x l u H3 Q
theorem Du {r:V->Option Int->Option Int->Hp->VK->Prop} (hr:LI X r) (he:PE X e te) (hl:PO X lo tl) (hu:PO X hi th):PE X (.Subscript e (.Slice lo hi none p2) pos) (OO r te tl th):=by
 intro pins s σ H Q I h;refine Ub (eZ (he pins s σ H _ I h) fun v s1 ⟨x,H1,I1,r1,q1⟩=>?_);refine wpAny_Slice (eZ (hl pins s1 σ H1 _ I1 q1) fun vl s2 ⟨l,H2,I2,pl,q2⟩=>eZ (hu pins s2 σ H2 _ I2 q2) fun vu s3 ⟨u,H3,I3,pu,q3⟩=>?_);rw [Ua];refine To ?_;have I4:Inv X pins σ H3 { s3 with heap:=s3.heap.push { cls:=.type "slice",data:=.fields #[vl,vu,.none] } }:=I3.kept (t':=s3.toks) fun b ob q=>Sn _ q;obtain⟨T,id,hT,ht,hg⟩:=hr pins { s3 with heap:=s3.heap.push { cls:=.type "slice",data:=.fields #[vl,vu,.none] } } σ H3 x v vl vu l u s3.heap.objs.size Q I4 r1 (Heap.IsSliceOf.new ..) pl pu q3;show Te (model X.prog X.w) X.A (subscriptTail e (.Slice lo hi none p2) v (.ref s3.heap.objs.size)) (EP X pins σ Q) X.xe { s3 with heap:=s3.heap.push { cls:=.type "slice",data:=.fields #[vl,vu,.none] } };exact tail_any (ops:=[.ref s3.heap.objs.size,v]) ht hT hg (by with_unfolding_all rfl)

def yj (xs:List V) (lo hi:Option Int):List V:=(xs.drop (HT.sIx xs.length 0 lo)).take (HT.sIx xs.length xs.length hi - HT.sIx xs.length 0 lo)
theorem ra (xs:List V) (lo hi:Option Int):(yj xs lo hi).length<=xs.length:=by
 unfold yj;rw [Pz,PN];omega
def NM (K:RL):V->Option Int->Option Int->Hp->VK->Prop:=fun x lo hi H Q=>∃ a xs,x=.ref a/\p8 K H a xs /\
 ¬ (HT.sIx xs.length 0 lo=0/\HT.sIx xs.length xs.length hi=xs.length)/\∀ p,H p=none->Q (.ref p) (upd H p (.tup (yj xs lo hi)))
theorem JM:LI X (NM X.K):=by
 intro pins s σ H x v vl vu lo hi sl Q I rx hs pl pu h;obtain⟨a,xs,rfl,hx,hw,q⟩:=h;cases rx;obtain⟨its,r,ht,hz⟩:=I.tuple hx;have hlen:its.toArray.size=xs.length:=by rw [Pm]; exact r.length.symm
 refine⟨"tuple",_,PyProof.Rows.slot_tuple_getitem.lookup,ht.typeIs,?_⟩;refine HT.Bp ht hs pl pu (by rw [hlen]; exact hw) ?_ (by rw [hlen]; exact hz);rw [hlen];refine⟨.ref s.heap.objs.size,_,I.laid (t':=s.toks) (o:=.tup (yj xs lo hi)) (fun b ob q=>Sn _ q) (Ph _) ?_,rfl,q _ (I.hok.fresh (Ph _))⟩;exact⟨O2 (ra xs lo hi) hz,_,(r.drop (HT.sIx xs.length 0 lo)).take (HT.sIx xs.length xs.length hi - HT.sIx xs.length 0 lo),IsTup.new _ _⟩

def KI (K:RL):R2:=fun x y H Q=>∃ a b xs ys,x=.ref a/\y=.ref b/\p8 K H a xs/\p8 K H b ys/\xs≠[]/\xs.length+ys.length<=S6 /\
 (ys=[]->Q (.ref a) H)/\(ys≠[]->∀ p,H p=none->Q (.ref p) (upd H p (.tup (xs++ys))))
theorem Vals.nil_iff {xs:List V} {us:List SY} (r:Vals xs us):us=[]↔xs=[]:=by
 cases r with
 | nil=>simp
 | cons _ _=>simp
theorem GV:mr X (Tu .Add) (KI X.K):=by
 intro pins s σ H x y v u Q I rx ry h;obtain⟨a,b,xs,ys,rfl,rfl,ha,hb,hx,hz,q1,q2⟩:=h;cases rx;cases ry;obtain⟨its,r1,p1,_⟩:=I.tuple ha;obtain⟨its2,r2,p2,_⟩:=I.tuple hb;refine HT.Mb p1 p2 (fun z=>hx (r1.nil_iff.mp z)) (fun z=>⟨.ref a,H,I,rfl,q1 (r2.nil_iff.mp z)⟩) (fun z=>?_) (by rw [<- r1.length,<- r2.length]; exact hz);refine⟨.ref s.heap.objs.size,_,I.laid (t':=s.toks) (o:=.tup (xs++ys)) (fun b ob q=>Sn _ q) (Ph _) ?_,rfl,q2 (fun w=>z (r2.nil_iff.mpr w)) _ (I.hok.fresh (Ph _))⟩;exact⟨by rw [PK]; exact hz,_,r1.append r2,IsTup.new _ _⟩
end
end L2

namespace L2
open PySem PySem.Spec PyProof.Rows

def JQ (n:Nat) (i:Int):Option Nat:=if 0<=i then (if i < n then some i.toNat else none) else if -(n:Int)<=i then some (i+n).toNat else none
def pT {α:Type} (xs:List α) (i:Int):Option α:=(JQ xs.length i).bind fun j=>xs[j]?
theorem G1 {n:Nat} {i:Int} {j:Nat} (h:JQ n i=some j):seqIndex? i n=some j/\j < n/\-(n:Int)<=i/\i < n:=by
 unfold JQ at h;by_cases h0:0<=i
 ·rw [if_pos h0] at h;by_cases h1:i < n
  ·rw [if_pos h1] at h;have e:i.toNat=j:=Option.some.inj h;exact⟨by rw [seqIndex_of h0 h1,e],by omega,by omega,h1⟩
  ·rw [if_neg h1] at h; cases h
 ·rw [if_neg h0] at h;by_cases h1:-(n:Int)<=i
  ·rw [if_pos h1] at h;have e:(i+n).toNat=j:=Option.some.inj h;exact⟨by rw [seqIndex_neg ‹0› h1,e],by omega,h1,by omega⟩
  ·rw [if_neg h1] at h; cases h
theorem xF {α:Type} {xs:List α} {i:Int} {v:α} (h:pT xs i=some v):∃ j,seqIndex? i xs.length=some j/\xs[j]?=some v/\j < xs.length/\-(xs.length:Int)<=i/\i < xs.length:=by
 unfold pT at h;cases e:JQ xs.length i with
 | none=>rw [e] at h; cases h
 | some j =>
  rw [e] at h;obtain⟨h1,h2,h3,h4⟩:=G1 e;exact⟨j,h1,h,h2,h3,h4⟩
def wR (b:Tf):Prop:=∀ o i,subscripted b false o i=operate [o,i] (getItem o i)
def J2 (X:Cx) (r:R2):Prop :=
 ∀ (value slice:Tf) (pins:List (S3×Obj)) (s:Tc) (σ:St) (H:Hp) (x y:V) (v u:SY) (Q:VK),Inv X pins σ H s->RelV x v->RelV y u->r x y H Q ->
  subscripted slice false v u=operate [v,u] (getItem v u)->Te (model X.prog X.w) X.A (subscriptTail value slice v u) (EP X pins σ Q) X.xe s
def OC (X:Cx) (id:String) (r:V->List V->Hp->VK->Prop):Prop :=
 ∀ (pins:List (S3×Obj)) (s:Tc) (σ:St) (H:Hp) (x:V) (xs:List V) (v:SY) (us:List SY) (Q:VK),Inv X pins σ H s->RelV x v->Vals xs us->r x xs H Q ->
  Te (model X.prog X.w) X.A (call (.builtin id) (v::us)) (EP X pins σ Q) X.xe s
section
variable {X:Cx} {a b:Tf} {ta tb:TE} {pos:Pos}
theorem Km {r:R2} (hr:J2 X r) (ha:PE X a ta) (hb:PE X b tb) (hs:wR b):PE X (.Subscript a b pos) (KA r ta tb):=by
 intro pins s σ H Q I h;exact Ub (IU ha hb I h fun v u s2 x y H2 I2 rx ry q=>hr a b pins s2 σ H2 x y v u Q I2 rx ry q (hs _ _))

def M9 (K:RL):R2:=fun x y H Q=>∃ p xs i v,x=.ref p/\y=.int i/\oZ K H p xs/\pT xs i=some v/\Q v H
def Mt (K:RL):R2:=fun x y H Q=>∃ p xs i v,x=.ref p/\y=.int i/\p8 K H p xs/\pT xs i=some v/\Q v H
def Ni:R2:=fun x y H Q=>∃ z i c,x=.str z/\y=.int i/\z.length<=S6/\pT z.cps.toList i=some c/\Q (.str ⟨#[c]⟩) H
theorem Hs:J2 X (M9 X.K):=by
 intro value slice pins s σ H x y v u Q I rx ry h hs;obtain⟨p,xs,i,z,rfl,rfl,hq,he,q⟩:=h;cases rx;obtain⟨t,rfl⟩:=ry;obtain⟨its,r,pl,hz⟩:=I.list hq;obtain⟨j,h1,h2,h3,h4,h5⟩:=xF he;obtain⟨w,ew,rw'⟩:=r.get h2;have hl:=r.length;have hn:=qM;have fin:EP X pins σ Q w s:=⟨z,H,I,rw',q⟩
 by_cases h0:0<=i
 ·have hj:i.toNat=j:=by
   rw [seqIndex_of h0 h5] at h1;exact Option.some.inj h1
  exact item_listR pl.isList h0 ‹0› (by rw [hj]; simpa using ew) fin hs
 ·have hj:(i+(its.toArray.size:Int)).toNat=j:=by
   rw [seqIndex_neg ‹0› h4] at h1;rw [Pm,<- hl];exact Option.some.inj h1
  exact subscriptTail_builtinR (x:=w) pl.isList.typeIs slot_list_getitem.lookup
   (wpAny_getItem_list_neg (Q:=fun r s'=>r=w/\EP X pins σ Q r s') pl.isList ‹0› (by rw [Pm] <;> omega) ‹0› (by rw [hj]; simpa using ew) ⟨rfl,fin⟩) hs
theorem Jv:J2 X (Mt X.K):=by
 intro value slice pins s σ H x y v u Q I rx ry h hs;obtain⟨p,xs,i,z,rfl,rfl,hq,he,q⟩:=h;cases rx;obtain⟨t,rfl⟩:=ry;obtain⟨its,r,pl,hz⟩:=I.tuple hq;obtain⟨j,h1,h2,h3,h4,h5⟩:=xF he;obtain⟨w,ew,rw'⟩:=r.get h2;have hl:=r.length;have hn:=qM;have fin:EP X pins σ Q w s:=⟨z,H,I,rw',q⟩
 exact subscriptTail_builtinR (x:=w) pl.typeIs slot_tuple_getitem.lookup
  (getItem_tuple (j:=j) (Q:=fun r s'=>r=w/\EP X pins σ Q r s') pl ‹0› ‹0› (by rw [Pm,<- hl]; exact h1) (by simpa using ew) ⟨rfl,fin⟩) hs
theorem JT:J2 X Ni:=by
 intro value slice pins s σ H x y v u Q I rx ry h hs;obtain⟨z,i,c,rfl,rfl,hz,he,q⟩:=h;obtain⟨t,rfl⟩:=rx;obtain⟨t',rfl⟩:=ry;obtain⟨j,h1,h2,h3,h4,h5⟩:=xF he;have hl:z.cps.toList.length=z.length:=by simp [Str.length]
 rw [hl] at h1 h4 h5;have hn:=qM;exact tail_any (typeIs_str s z t) slot_str_getitem.lookup (getItem_str (c:=c) (by
  have e1:decide (i < -(2 ^ 63:Int))=false:=decide_eq_false ‹0›;have e2:decide (i>=2 ^ 63)=false:=decide_eq_false ‹0›;rw [e1,e2,Bool.or_false]) (by rw [h1]; simpa using h2) ⟨.str ⟨#[c]⟩,H,I.tok _,⟨_,rfl⟩,q⟩) hs
theorem xk (lo hi:Option Int) (n:Nat):(sliceBounds lo hi none n).1=((HT.sIx n 0 lo:Nat):Int)/\(sliceBounds lo hi none n).2.1=((HT.sIx n n hi:Nat):Int)/\(sliceBounds lo hi none n).2.2=1:=by
 refine⟨?_,?_,rfl⟩
 ·cases lo with
  | none=>simp [sliceBounds,HT.sIx]
  | some i =>
   simp only [sliceBounds,HT.sIx,PQ,show (1:Int) > 0 by decide,if_true];by_cases h:i < 0
   ·simp only [h,if_true] <;> omega
   ·simp only [h,if_false] <;> omega
 ·cases hi with
  | none=>simp [sliceBounds,HT.sIx]
  | some i =>
   simp only [sliceBounds,HT.sIx,PQ,show (1:Int) > 0 by decide,if_true];by_cases h:i < 0
   ·simp only [h,if_true] <;> omega
   ·simp only [h,if_false] <;> omega
theorem uQ (its:List SY) (lo hi:Option Int):slicePick its.toArray lo hi none=((its.drop (HT.sIx its.length 0 lo)).take (HT.sIx its.length its.length hi - HT.sIx its.length 0 lo)).toArray:=by
 obtain⟨h1,h2,h3⟩:=xk lo hi its.toArray.size;unfold slicePick;rw [h1,h2,h3];simp only [sliceRange_one,pick_run,Pm] <;> rfl
def NR (K:RL):V->Option Int->Option Int->Hp->VK->Prop:=fun x lo hi H Q=>∃ a xs,x=.ref a/\oZ K H a xs/\∀ p,H p=none->Q (.ref p) (upd H p (.lst (yj xs lo hi)))
theorem GX:LI X (NR X.K):=by
 intro pins s σ H x v vl vu lo hi sl Q I rx hs pl pu h;obtain⟨a,xs,rfl,hx,q⟩:=h;cases rx;obtain⟨its,r,ht,hz⟩:=I.list hx;have hlen:=r.length;refine⟨"list",_,slot_list_getitem.lookup,ht.isList.typeIs,?_⟩;refine wpAny_getItem_list_slice ht.isList hs pl pu .none (by simp) ?_ (by rw [Pm] <;> omega);rw [uQ,<- hlen];refine⟨.ref s.heap.objs.size,_,I.laid (t':=s.toks) (o:=.lst (yj xs lo hi)) (fun b ob q=>Sn _ q) (Ph _) ?_,rfl,q _ (I.hok.fresh (Ph _))⟩;exact⟨O2 (ra xs lo hi) hz,_,0,(r.drop (HT.sIx xs.length 0 lo)).take (HT.sIx xs.length xs.length hi - HT.sIx xs.length 0 lo),Sq _ rfl⟩

def EH:V->Bool
 | .non=>true
 | .bl _=>true
 | .int _=>true
 | .str _=>true
 | _=>false
def Mo:V->V->Bool
 | .non,.non=>true
 | .bl a,.bl b=>a==b
 | .bl a,.int b=>(if a then 1 else 0)==b
 | .int a,.bl b=>a==(if b then 1 else 0)
 | .int a,.int b=>a==b
 | .str a,.str b=>a==b
 | _,_=>false
theorem IL {A:Tb} {s:Tc} {y x:V} {u v:SY} (ry:RelV y u) (rx:RelV x v) (fy:EH y=true) (fx:EH x=true):SeqAt.EqAt A s u v (Mo y x):=by
 cases y with
 | non =>
  cases ry;cases x with
  | non=>cases rx; exact SeqAt.EqAt.same _
  | bl b=>cases rx; exact SeqAt.EqAt.none_bool b
  | int b=>obtain⟨t,rfl⟩:=rx; exact SeqAt.EqAt.none_int b t
  | str b=>obtain⟨t,rfl⟩:=rx; exact SeqAt.EqAt.none_str b t
  | _=>exact absurd (show false=true from fx) Pn
 | bl a =>
  cases ry;cases x with
  | non=>cases rx; exact SeqAt.EqAt.bool_none a
  | bl b=>cases rx; exact SeqAt.EqAt.bool_bool a b
  | int b=>obtain⟨t,rfl⟩:=rx; exact SeqAt.EqAt.bool_int a b t
  | str b=>obtain⟨t,rfl⟩:=rx; exact SeqAt.EqAt.bool_str a b t
  | _=>exact absurd (show false=true from fx) Pn
 | int a =>
  obtain⟨t',rfl⟩:=ry;cases x with
  | non=>cases rx; exact SeqAt.EqAt.int_none a t'
  | bl b=>cases rx; exact SeqAt.EqAt.int_bool a t' b
  | int b=>obtain⟨t,rfl⟩:=rx; exact SeqAt.EqAt.int_int a t' b t
  | str b=>obtain⟨t,rfl⟩:=rx; exact SeqAt.EqAt.int_str a t' b t
  | _=>exact absurd (show false=true from fx) Pn
 | str a =>
  obtain⟨t',rfl⟩:=ry;cases x with
  | non=>cases rx; exact SeqAt.EqAt.str_none a t'
  | bl b=>cases rx; exact SeqAt.EqAt.str_bool a t' b
  | int b=>obtain⟨t,rfl⟩:=rx; exact SeqAt.EqAt.str_int a t' b t
  | str b=>obtain⟨t,rfl⟩:=rx; exact SeqAt.EqAt.str_str a t' b t
  | _=>exact absurd (show false=true from fx) Pn
 | _=>exact absurd (show false=true from fy) Pn
theorem o7:eA X (.builtin "len") (fun xs H Q=>∃ p ys,xs=[.ref p]/\(oZ X.K H p ys\/p8 X.K H p ys)/\Q (.int ys.length) H):=by
 intro pins s σ H xs us Q I r h;obtain⟨p,ys,rfl,hq,q⟩:=h;obtain⟨u,rfl,rx⟩:=vals1 r;cases rx;have hn:=qM;rcases hq with hq | hq
 ·obtain⟨its,r',pl,hz⟩:=I.list hq;have hlen:=r'.length;exact Calls.call_len_list pl.isList (by simp only [Pm] <;> omega) ⟨.int ys.length,H,I.tok _,⟨s.toks+1,by rw [Pm,hlen]⟩,q⟩
 ·obtain⟨its,r',pl,hz⟩:=I.tuple hq;have hlen:=r'.length;exact len_tuple pl (by simp only [Pm] <;> omega) ⟨.int ys.length,H,I.tok _,⟨s.toks+1,by rw [Pm,hlen]⟩,q⟩
theorem xA:eA X (.builtin "len") (fun xs H Q=>∃ z,xs=[.str z]/\z.length<=S6/\Q (.int z.length) H):=by
 intro pins s σ H xs us Q I r h;obtain⟨z,rfl,hz,q⟩:=h;obtain⟨u,rfl,t,rfl⟩:=vals1 r;have hn:=qM;exact len_str ‹0› ⟨.int z.length,H,I.tok _,⟨_,rfl⟩,q⟩
theorem lZ:eA X (.type "list") (fun xs H Q=>∃ p ys,xs=[.ref p]/\(oZ X.K H p ys\/p8 X.K H p ys)/\∀ l,H l=none->Q (.ref l) (upd H l (.lst ys))):=by
 intro pins s σ H xs us Q I r h;obtain⟨p,ys,rfl,hq,q⟩:=h;obtain⟨u,rfl,rx⟩:=vals1 r;cases rx;have fin:∀ (its:List SY),Vals ys its->ys.length<=S6->∀ (h':S5) (c':Nat),(∀ b o',s.heap.get? b=some o'->h'.get? b=some o') ->
   h'.get? s.heap.objs.size=some { cls:=.type "list",dict:=none,data:=.seq its.toArray c',slots:=#[] }->EP X pins σ Q (.ref s.heap.objs.size) { s with heap:=h' }:=fun its r' hz h' c' kp e =>
  ⟨.ref s.heap.objs.size,_,I.laid (t':=s.toks) kp (Ph _) (show cK X.prog X.w _ h' _ (.lst ys) from ⟨hz,its,c',r',e⟩),rfl,q _ (I.hok.fresh (Ph _))⟩
 rcases hq with hq | hq
 ·obtain⟨its,r',pl,hz⟩:=I.list hq;have hlen:=r'.length;obtain⟨o,ho,hc,n,hd⟩:=pl.isList;exact call_list_seq p (.inl rfl) ho hc hd (fun h' c' kp e=>fin its r' hz h' c' kp e) (by simp only [Pm] <;> omega)
 ·obtain⟨its,r',pl,hz⟩:=I.tuple hq;have hlen:=r'.length;obtain⟨o,ho,hc,n,hd⟩:=pl;exact call_list_seq p (.inr rfl) ho hc hd (fun h' c' kp e=>fin its r' hz h' c' kp e) (by simp only [Pm] <;> omega)
theorem oE:eA X (.type "tuple") (fun xs H Q=>∃ p ys,xs=[.ref p]/\((oZ X.K H p ys/\∀ l,H l=none->Q (.ref l) (upd H l (.tup ys)))\/(p8 X.K H p ys/\Q (.ref p) H))):=by
 intro pins s σ H xs us Q I r h;obtain⟨p,ys,rfl,h⟩:=h;obtain⟨u,rfl,rx⟩:=vals1 r;cases rx;rcases h with ⟨hq,q⟩ | ⟨hq,q⟩
 ·obtain⟨its,r',pl,hz⟩:=I.list hq;have hlen:=r'.length;refine call_tuple_list pl.isList (fun h' kp=>?_) (by simp only [Pm] <;> omega);have I1:Inv X pins σ H { s with heap:=h' }:=I.kept (t':=s.toks) kp;have I2:Inv X pins σ (upd H h'.objs.size (.tup ys)) { s with heap:=h'.push { cls:=.type "tuple",data:=.seq its.toArray } } :=
   I1.laid (t':=s.toks) (fun b o e=>Sn _ e) (Ph _) (show cK X.prog X.w _ _ _ (.tup ys) from ⟨hz,its,r',IsTup.new _ _⟩)
  exact⟨.ref h'.objs.size,_,I2,rfl,q _ (I1.hok.fresh (Ph _))⟩
 ·obtain⟨its,r',pl,hz⟩:=I.tuple hq;exact call_tuple_same pl ⟨.ref p,H,I,rfl,q⟩

def M6 (K:RL) (T:String) (x:V) (H:Hp):Prop:=match x with
 | .str _=>T = "str"
 | .int _=>T = "int"
 | .ref p=>(T = "list"/\∃ xs,oZ K H p xs)\/(T = "tuple"/\∃ o,K.lookup p=some o/\o.cls=.type "tuple"/\o.dict=none) \/
   (T = "dict"/\((∃ kvs,H p=some (.dK kvs))\/∃ kvs,H p=some (.dT kvs)))\/(T = "set"/\∃ S n,H p=some (.set S n))
 | _=>False
theorem IW {pins:List (S3×Obj)} {σ:St} {H:Hp} {s:Tc} {T:String} {x:V} {v:SY} (I:Inv X pins σ H s) (r:RelV x v) (ty:M6 X.K T x H) :
  s.TypeIs v T/\∀ a,v=.ref a->∃ ob,s.heap.get? a=some ob/\ob.dict=none:=by
 cases x with
 | str z =>
  obtain⟨t,rfl⟩:=r;cases (show T = "str" from ty);exact⟨typeIs_str s z t,fun _ e=>nomatch e⟩
 | int i =>
  obtain⟨t,rfl⟩:=r;cases (show T = "int" from ty);exact⟨typeIs_int s i t,fun _ e=>nomatch e⟩
 | ref p =>
  cases r;rcases ty with ⟨rfl,xs,hq⟩ | ⟨rfl,o,hk,hc,hd⟩ | ⟨rfl,hk⟩ | ⟨rfl,S,n,hk⟩
  ·obtain⟨its,_,pl,_⟩:=I.list hq;refine⟨pl.isList.typeIs,fun a e=>?_⟩;cases e;obtain⟨o,n,e,c,hd,_⟩:=pl;exact⟨o,e,hd⟩
  ·refine⟨⟨o,I.kIn p o hk,hc⟩,fun a e=>?_⟩;cases e;exact⟨o,I.kIn _ o hk,hd⟩
  ·have z:∃ o,s.heap.get? p=some o/\o.ExactDict:=by
    rcases hk with ⟨kvs,hk⟩ | ⟨kvs,hk⟩
    ·obtain⟨_,_,_,_,o,_,_,e,ex,_⟩:=I.hok p _ hk;exact⟨o,e,ex⟩
    ·obtain⟨_,_,_,_,o,_,_,e,ex,_⟩:=I.hok p _ hk;exact⟨o,e,ex⟩
   obtain⟨o,e,ex⟩:=z;refine⟨⟨o,e,ex.1⟩,fun a e2=>?_⟩;cases e2;exact⟨o,e,ex.2.1⟩
  ·obtain⟨o,_,_,_,e,ex,_⟩:=I.hok p _ hk;refine⟨⟨o,e,ex.1⟩,fun a e2=>?_⟩;cases e2;exact⟨o,e,ex.2.1⟩
 | _=>exact False.elim ty
def OI (K:RL) (T:String) (r:V->List V->Hp->VK->Prop) (to:TE) (t:TA):TE:=fun σ H Q=>to σ H fun x H1=>M6 K T x H1/\t σ H1 fun xs H2=>r x xs H2 Q
variable {o e:Tf} {es:List Tf} {to:TE} {t:TA} {name:Str} {apos cpos:Pos} {T id:String} {r:V->List V->Hp->VK->Prop}
theorem A9 (pa:PlainAttrs T) (slot:Slot T name id) (hty:typeOf (.builtin id)=pure (.type "method_descriptor")) (hm:OC X id r) (ho:PE X o to) (ha:PA X (e::es) t)
  (hbase:TB o name X.env (eval o X.env)=eval o X.env:=by rfl)
  (hfew:((backTo cpos (Tg (e::es) X.env)).all (fun x=>!x.1) && (backToKw cpos (TF [] X.env)).all (fun x=>x.1.isSome)
   && decide ((e::es).length+([]:List Uc).length+(if ([]:List Uc).isEmpty then 0 else 1) < 30))=true:=by rfl)
  (hline:(apos.endLine==cpos.line)=true:=by rfl) (hs:Tg (e::es) X.env=(false,eval e X.env)::Tg es X.env:=by rfl) (hplain:(backTo cpos (Tg es X.env)).any (·.1)=false:=by rfl) :
  PE X (.Call (.Attribute o name apos) (e::es) [] cpos) (OI X.K T r to t):=by
 intro pins s σ H Q I h;refine wpAny_Call_method_late hbase hfew hline rfl (eZ (ho pins s σ H _ I h) fun v s1 ⟨x,H1,I1,r1,ty,q1⟩=>?_);obtain⟨h1,h2⟩:=IW I1 r1 ty;refine⟨T,id,pa,slot,hty,h1,h2,?_⟩;have hA:=ha cpos pins s1 σ H1 _ I1 q1;rw [hs] at hA ⊢;refine Calls.callWith_builtin (by show (false || (backTo cpos (Tg es X.env)).any (·.1))=false; rw [hplain] <;> rfl) (Calls.evalArgs_plain ?_);exact eZ hA fun us s2 ⟨vs,H2,I2,r2,q2⟩=>hm pins s2 σ H2 x vs v us Q I2 r1 r2 q2
end
end L2

namespace L2
open PySem PySem.Spec PyProof.Rows

def Lf (X:Cx) (id:String) (r:V->List V->Hp->VK->Prop):Prop :=
 ∀ (pins:List (S3×Obj)) (s:Tc) (σ:St) (H:Hp) (x:V) (xs:List V) (v:SY) (us:List SY) (Q:VK),Inv X pins σ H s->RelV x v->Vals xs us->r x xs H Q ->
  Te (model X.prog X.w) X.A (call (.builtin id) (v::us)) (EP X pins σ Q) X.xe s

theorem Vals.one:∀ {x:V} {us:List SY},Vals [x] us->∃ u,us=[u]/\RelV x u
 | _,_,.cons r .nil=>⟨_,rfl,r⟩
theorem Vals.two:∀ {x y:V} {us:List SY},Vals [x,y] us->∃ u v,us=[u,v]/\RelV x u/\RelV y v
 | _,_,_,.cons r (.cons q .nil)=>⟨_,_,rfl,r,q⟩
section
variable {X:Cx} {pins:List (S3×Obj)} {σ:St} {H:Hp} {s:Tc} {l b:S3} {xs ys zs:List V}

theorem Inv.lset {its its':List SY} {n:Nat} {f:Array SY->Array SY} {t':Nat} (I:Inv X pins σ H s) (hH:H l=some (.lst xs))
  (e:s.heap.get? l=some { cls:=.type "list",data:=.seq its.toArray n }) (hf:f its.toArray=its'.toArray) (hv:Vals ys its') (hz:ys.length<=S6) :
  Inv X pins σ (upd H l (.lst ys)) { s with heap:=s.heap.update l (Obj.mapSeq f),toks:=t' }:=by
 have q:=PySem.IsL.update e f;rw [hf] at q;refine I.write (x:=l) (e:=l) (by rw [hH]; exact trivial) (.inl rfl) (fun b' u hb hu=>(Heap.get?_update_other s.heap (Obj.mapSeq f) (Ne.symm hb)).trans hu) ⟨_,q⟩ ?_;exact⟨hz,its',_,hv,q⟩
theorem Inv.lnew {its:List SY} {t':Nat} (I:Inv X pins σ H s) (hv:Vals ys its) (hz:ys.length<=S6) :
  Inv X pins σ (upd H s.heap.objs.size (.lst ys)) { s with heap:=s.heap.push { cls:=.type "list",data:=.seq its.toArray },toks:=t' } :=
 I.laid (fun _ _ q=>Sn _ q) (Ph _) ⟨hz,its,0,hv,Sq _ rfl⟩
theorem Inv.fresh (I:Inv X pins σ H s):H s.heap.objs.size=none:=I.hok.fresh (Ph _)
theorem Inv.lstM (I:Inv X pins σ H s) (hH:H l=some (.lst xs)):xs.length<=S6/\∃ (its:List SY) (n:Nat),Vals xs its/\xs.length=its.length/\s.heap.get? l=some { cls:=.type "list",data:=.seq its.toArray n }:=by
 obtain⟨z,its,n,r,e⟩:=I.hok l _ hH;exact⟨z,its,n,r,r.length,e⟩

theorem Do {n:Nat} (h:n<=S6):Builtin.List.listTooLong n=false:=by
 unfold Builtin.List.listTooLong;exact decide_eq_false ‹0›
end

section
variable {X:Cx}

def xK:V->List V->Hp->VK->Prop:=fun x vs H Q=>∃ l xs y,x=.ref l/\vs=[y]/\H l=some (.lst xs)/\xs.length < S6/\Q .non (upd H l (.lst (xs++[y])))
theorem d5:Lf X "list.append" xK:=by
 intro pins s σ H x vs v us Q I rx rv h;obtain⟨l,xs,y,rfl,rfl,hH,hz,q⟩:=h;cases rx;obtain⟨u,rfl,ru⟩:=rv.one;obtain⟨z,its,n,r,hl,e⟩:=I.lstM hH;refine call_meets F.slot_list_append ⟨_,e,rfl⟩ F.entry_list_append (F.args_list_append_2 _ _) (PySem.list_append l its.toArray n u (by rw [Pm]; omega)) ⟨e,?_⟩;refine⟨.non,_,I.lset (its':=its++[u]) hH e (by simp) (r.append (.cons ru .nil)) ?_,rfl,q⟩;rw [PK,PR];omega

def FR:V->List V->Hp->VK->Prop:=fun x vs H Q=>∃ l b xs zs,x=.ref l/\vs=[.ref b]/\H l=some (.lst xs)/\H b=some (.lst zs)/\xs.length+zs.length<=S6/\Q .non (upd H l (.lst (xs++zs)))
theorem Cz:Lf X "list.extend" FR:=by
 intro pins s σ H x vs v us Q I rx rv h;obtain⟨l,b,xs,zs,rfl,rfl,hH,hB,hz,q⟩:=h;cases rx;obtain⟨u,rfl,ru⟩:=rv.one;cases ru;obtain⟨z,its,n,r,hl,e⟩:=I.lstM hH;obtain⟨z2,its2,n2,r2,hl2,e2⟩:=I.lstM hB;have hsz:its.toArray.size+its2.toArray.size<=S6:=by rw [Pm,Pm]; omega
 have hlong:¬ (!its.toArray.isEmpty && Builtin.List.listTooLong (its.toArray.size+its2.toArray.size))=true:=by
  rw [Do hsz,PV];exact Pn
 refine call_meets F.slot_list_extend ⟨_,e,rfl⟩ F.entry_list_extend (F.args_list_extend_2 _ _)
  (AutoSeq1.list_extend_list_list_0 l its.toArray n b its2.toArray n2 hlong (by rw [Pm]; omega) ‹0›) ⟨e,e2,?_⟩
 refine⟨.non,_,I.lset (its':=its++its2) hH e (by simp) (r.append r2) ?_,rfl,q⟩;rw [PK];omega

end


end L2

namespace Att
open PySem PySem.W PySem.Calls PyProof.Rows

theorem rz {P:Params} {h:S5}:∀ (ns:List Int) (vs:List SY),WellAll P h vs (ns.map WData.int)->IntsAre vs ns:=by
 intro ns
 induction ns with
 | nil =>
  intro vs w;rw [PX] at w;cases w;exact .nil
 | cons n ns ih =>
  intro vs w;rw [Pq] at w;cases w with
  | cons a b =>
   cases a;exact .cons _ _ (ih _ b)

theorem CQ {l:OpenLaw} {n:Nat} (hn:l.most=some n) {P:Params} {h:S5} {args:List WData} {vals:List SY}
  (hpre:l.row.toRowW.claim.pre args=true) (hwl:WellAll P h vals args) :
  ∃ a vs ns,vals=[Value.ref a]/\args=[WData.list (ns.map WData.int)]/\h.get? a=some { cls:=.type "list",data:=.seq vs.toArray }/\IntsAre vs ns/\ns.length<=n:=by
 have hsh:WShape.hasAll [] args [.list .int]=true:=(pre_splitW hpre).1;have hc:l.pre.holds [] { args:=args }=true:=(pre_splitW hpre).2;obtain⟨d,r,rfl,h1,h2⟩:=hasAllW_cons hsh;obtain rfl:=hasAllW_nil h2;obtain⟨xs,rfl,h3⟩:=hasW_list h1;obtain⟨ns,rfl⟩:=items_int h3;have hlen:ns.length<=n:=by
  unfold OpenLaw.pre at hc;have h4:(WTm.not (.lt (.lit (.int (n:Int))) (.len (.arg 0)))).holds [] { args:=[.list (ns.map .int)] }=true:=by
   have h4:=(holds_andW hc).1;rw [hn] at h4;exact h4
  have h5:=condW_of h4 (w_not (w_lt w_lit (w_len_list (w_arg rfl))));rw [Pr] at h5;refine Nat.le_of_not_lt fun q=>?_;have q':(n:Int) < ((ns.length:Nat):Int):=by omega
  first
   | (rw [decide_eq_true q'] at h5; exact absurd h5 (by decide))
   | (simp at h5; omega)
 cases hwl with
 | cons w1 w2 =>
  cases w2;cases w1 with
  | list ho hall=>exact⟨_,_,ns,rfl,rfl,ho,rz ns _ hall,hlen⟩

theorem B1 (l:OpenLaw) (args:List WData):l.row.toRowW.claim.post args (.bool true) args=true :=
 postW_of (r:=l.row.toRowW) (X:=(true==true))
  (show WShape.has [] (.bool true) .bool=true by first | rfl | decide | simp [WShape.has,WShape.arms,WShape.armsAll])
  (show (WTm.eq .res (.lit (.bool true))).value [] { args:=args,res:=some (.bool true),after:=args }=some (.bool (true==true)) from w_eq_bool (w_res rfl) w_lit) rfl

theorem HB {l:OpenLaw} {n:Nat} {q:S0} {loose:List Str} {XP:(Str->Option SY)->S5->Prop} {YP:SZ->S5->Prop} {d:DefRec}
  (hn:l.most=some n) (hdf:d.params.defaults=[])
  (call:∀ (w:SZ) (s₀ s₁:Tc) (mg mb:Str->Option SY) (fa:S3) (o:Obj) (pm cd doc:SY) (a:S3) (vs:List SY) (ns:List Int),
   Ground q loose [] XP w s₀ mg mb s₁.heap->YP w s₁.heap ->
   s₁.heap.get? fa=some o->o.data=.func (docDef d.name d.params d.body d.scope pm cd doc)->s₁.heap.CodeRec cd d.name->mg d.name=some (.ref fa) ->
   s₁.heap.get? a=some { cls:=.type "list",data:=.seq vs.toArray }->IntsAre vs ns->ns.length<=n->s₁.gens=#[] ->
   Tz (model l.prog w) callerA (.call (.ref fa) ⟨[.ref a],[]⟩) (fun r s'=>r=.ok (.ret (.bool true))/\OldK s₁.heap s'.heap/\s'.os=s₁.os/\AllBare s'.gens) s₁) :
  WalkO q loose XP YP l.row.toRowW d [] (fun f vs=>PySem.call f vs):=by
 intro w s₀ s₁ mg mb G Y fa o pm cd doc dV kV ho hd hcd hD hmg hg args vals as hpre hlay hrd hwl hlo;obtain rfl:dV=.none:=Dflts.none hD hdf;obtain rfl:kV=.none:=Dflts.noKw hD;obtain⟨a,vs,ns,rfl,rfl,hobj,hints,hlen⟩:=CQ hn hpre hwl;refine enter_call (TN (call w s₀ s₁ mg mb fa o pm cd doc a vs ns G Y ho (fd_plain hd) hcd hmg hobj hints hlen hg) fun r s' hq=>?_);obtain⟨rfl,h2,h3,h4⟩:=hq;exact⟨.inl ⟨.bool true,.bool true,[],rfl,fun _=>rfl,.bool true,B1 l _,fun _=>⟨List.Pairwise.nil,fun _ hm=>(nomatch hm)⟩⟩,h2,h3,h4⟩

section
variable {prog:S0} {w:SZ} {A:Tb} {E:SY->Tc->Prop} {s:Tc} {K:Frag}

end
end Att

namespace L2
open PySem PySem.Spec PyProof.Rows

theorem vE:∀ {vs:List SY} {ns:List Int},IntsAre vs ns->Vals (ns.map V.int) vs
 | _,_,.nil=>.nil
 | _,_,.cons n t h=>.cons ⟨t,rfl⟩ (vE h)

end L2

namespace L2
open PySem PySem.Spec PyProof.Rows

end L2

namespace L2
open PySem PySem.Spec PyProof.Rows

def inClass (s:Th) (j:Nat):Th:=match s with
 | .ClassDef _ _ _ body _ _ _ _ _ _ _=>body.getD j (.Pass ⟨0,0,0,0⟩)
 | _=>.Pass ⟨0,0,0,0⟩
def nK (s:Th):TU:=match s with
 | .FunctionDef _ a _ _ _ _ _ _ _ _=>a
 | _=>{ posonlyargs:=[],args:=[],vararg:=none,kwonlyargs:=[],kw_defaults:=[],kwarg:=none,defaults:=[] }
def fF (s:Th):List Th:=match s with
 | .FunctionDef _ _ b _ _ _ _ _ _ _=>b
 | _=>[]
def ax (s:Th):Td:=match s with
 | .FunctionDef _ _ _ _ _ _ sc _ _ _=>sc
 | _=>{ kind:=.function,names:=[],isGenerator:=false,isCoroutine:=false }

abbrev LD:An:=fun _ _ _ _ _ _=>False
abbrev E0:XK:=fun _ _ _=>False
structure wF (K:RL) (x qual:Str) (st:Th) (f:S3) (fd:TK):Prop where
 ex:∃ (oc:SY) (od:Option S3) (kV doc pm:SY) (an:Option S3) (cdv ct:SY) (osl:Array (Option SY)),
  fd=R3 x qual (nK st) (fF st) (ax st) .none kV doc pm an cdv ct/\K.lookup f=some ⟨oc,od,.func fd,osl⟩/\R4 K cdv qual=true
 kp:RZ K (.ref f)=true
section
variable {P:S0} {w:SZ} {K:RL} {mg:Str->Option SY} {base:S5}
theorem wF.ok {x qual:Str} {st:Th} {f:S3} {fd:TK} {N ps:List Str} {k:Nat} {sp:Sp} (F:wF K x qual st f fd) (S:aU N ps (ax st)) (len:∀ vs H Q E,sp vs H Q E->vs.length=ps.length)
  (hbody:∀ (cdv:SY) (A:Tb) (outer:List Env) (s:Tc) (H:Hp) (vs:List V) (Q:VK) (E:XK),fN k (A.deeper (envOfC qual (ax st) s.heap.objs.size f cdv))->sp vs H Q E ->
   ∃ t,x6 (j5 LD P w K mg base N qual (ax st) f cdv A outer s H E).nox (fF st) t/\t { nx:=fun _ H'=>Q .non H',rt:=Q } (start N vs) H):jI P w K mg base LD (k+1) f fd ps sp:=by
 obtain⟨oc,od,kV,doc,pm,an,cdv,ct,osl,rfl,lk,hcd⟩:=F.ex;refine En lk hcd S len fun A outer s H vs Q E hr hsp=>?_;obtain⟨t,h,q⟩:=hbody cdv A outer s H vs Q E hr hsp;exact⟨t,h.nox,q⟩
theorem wF.binds {x qual:Str} {st:Th} {f:S3} {fd:TK} {ps:List Str} (F:wF K x qual st f fd)
  (h:∀ (kV doc pm:SY) (an:Option S3) (cdv ct:SY) (us:List SY),us.length=ps.length->bindArgs (R3 x qual (nK st) (fF st) (ax st) .none kV doc pm an cdv ct) ⟨us,[]⟩=pure (ps.zip us)):Binds K fd ps []:=by
 obtain⟨oc,od,kV,doc,pm,an,cdv,ct,osl,rfl,lk,hcd⟩:=F.ex;exact .all (h kV doc pm an cdv ct)
theorem bE {x qual:Str} {st:Th} {f:S3} {oc:SY} {od an:Option S3} {osl:Array (Option SY)} {kV doc pm cdv ct:SY} (l:K.lookup f=some ⟨oc,od,.func (R3 x qual (nK st) (fF st) (ax st) .none kV doc pm an cdv ct),osl⟩)
  (c:R4 K cdv qual=true) (k:RZ K (.ref f)=true):wF K x qual st f (R3 x qual (nK st) (fF st) (ax st) .none kV doc pm an cdv ct):=⟨⟨oc,od,kV,doc,pm,an,cdv,ct,osl,rfl,l,c⟩,k⟩
end
section
variable {X:Cx}
theorem pv (i:Nat) {x:Str} {pos:Pos} (hN:X.N[i]?=some x:=by rfl) (hv:HY X.env.scope x:=by first | exact Or.inl rfl | exact Or.inr (Or.inl rfl) | exact Or.inr (Or.inr rfl)) (hd:(x==("__debug__":Str))=false:=by decide)
  (hcd:(x==("__classdict__":Str))=false:=by decide):PE X (.Name x pos) (ux i):=JF hN hv hd hcd
end

theorem Gx {A B:Prop} (h:B):if false=true then A else B:=by
 rw [if_neg Pn];exact h
theorem FL {A B:Prop} (h:A):if true=true then A else B:=by
 rw [if_pos rfl];exact h
def bn (H H':Hp):Prop:=∀ b o,H b=some o->H' b=some o
theorem bn.refl (H:Hp):bn H H:=fun _ _ h=>h
theorem bn.trans {H H1 H2:Hp} (a:bn H H1) (b:bn H1 H2):bn H H2:=fun c o h=>b c o (a c o h)
theorem bn.free {H H':Hp} (e:bn H H') {l:S3} (h:H' l=Option.none):H l=Option.none:=by
 cases q:H l with
 | none=>rfl
 | some o =>
  rw [e l o q] at h;cases h
theorem bn.seq {K:RL} {H H':Hp} {a:S3} {xs:List V} (e:bn H H') (h:oZ K H a xs):oZ K H' a xs:=by
 rcases h with (h | ⟨o,h⟩) | h
 ·exact .inl (.inl (e _ _ h))
 ·exact .inl (.inr ⟨o,e _ _ h⟩)
 ·exact .inr h

end L2
namespace L2
open PySem PySem.Spec PyProof.Rows

section
variable {κ:Type} [DecidableEq κ]
def jB (kvs:List (κ×V)) (k:κ):Option V:=(kvs.find? fun kv=>decide (kv.1=k)).map (·.2)
def putK (kvs:List (κ×V)) (k:κ) (v:V):List (κ×V) :=
 if (kvs.any fun kv=>decide (kv.1=k))=true then kvs.map (fun kv=>if kv.1=k then (kv.1,v) else kv) else kvs++[(k,v)]
theorem kW {p:κ×V} {r:List (κ×V)} {k:κ} (e:p.1=k):jB (p::r) k=some p.2:=by simp [jB,PY,e]
theorem jx {p:κ×V} {r:List (κ×V)} {k:κ} (e:¬ p.1=k):jB (p::r) k=jB r k:=by simp [jB,PY,e]
theorem t6 (k:κ):∀ kvs:List (κ×V),(kvs.any fun kv=>decide (kv.1=k))=(jB kvs k).isSome
 | []=>rfl
 | p::r=>by
  rw [PZ];by_cases e:p.1=k
  ·simp only [kW e,decide_eq_true e,Bool.true_or,Option.isSome_some]
  ·rw [jx e,decide_eq_false e,Bool.false_or]; exact t6 k r
theorem jQ (kvs:List (κ×V)) (k:κ) (v:V):(putK kvs k v).length<=kvs.length+1:=by
 unfold putK;split
 ·rw [Pr]; omega
 ·rw [PK,Pp,P0]; omega
theorem sG.isSome_eq {o:Option V} {u:Option SY} (r:sG o u):o.isSome=u.isSome:=by
 cases o with
 | none=>cases u with
  | none=>rfl
  | some _=>exact(show False from r).elim
 | some _=>cases u with
  | none=>exact(show False from r).elim
  | some _=>rfl
theorem KV.val {kvs:List (κ×V)} {vs:List (κ×SY)} (r:KV kvs vs) (k:κ):sG (jB kvs k) (valueAt vs k):=by
 unfold KV at r
 induction r with
 | nil=>exact True.intro
 | @cons p q ps qs h t ih =>
  obtain⟨h1,h2⟩:=h;by_cases e:p.1=k
  ·have e':q.1=k:=h1.symm.trans e;have b:valueAt (q::qs) k=some q.2:=(by simp [valueAt,PY,e']);rw [kW e,b]; exact h2
  ·have e':¬ q.1=k:=fun z=>e (h1.trans z);have b:valueAt (q::qs) k=valueAt qs k:=(by simp [valueAt,PY,e']);rw [jx e,b]; exact ih
theorem KV.any {kvs:List (κ×V)} {vs:List (κ×SY)} (r:KV kvs vs) (k:κ):(kvs.any fun kv=>decide (kv.1=k))=vs.any fun kv=>decide (kv.1=k):=by
 unfold KV at r
 induction r with
 | nil=>rfl
 | cons h t ih=>rw [PZ,PZ,ih,h.1]
theorem KV.repl {kvs:List (κ×V)} {vs:List (κ×SY)} (r:KV kvs vs) (k:κ) {y:V} {u:SY} (ry:RelV y u) :
  KV (kvs.map fun kv=>if kv.1=k then (kv.1,y) else kv) (vs.map fun kv=>if kv.1=k then (kv.1,u) else kv):=by
 unfold KV at r ⊢
 induction r with
 | nil=>exact .nil
 | @cons p q ps qs h t ih =>
  rw [Pq,Pq];refine .cons ?_ ih;obtain⟨h1,h2⟩:=h;by_cases e:p.1=k
  ·rw [if_pos e,if_pos (h1.symm.trans e)]; exact⟨h1,ry⟩
  ·rw [if_neg e,if_neg (fun z=>e (h1.trans z))]; exact⟨h1,h2⟩
theorem KV.put {kvs:List (κ×V)} {vs:List (κ×SY)} (r:KV kvs vs) (k:κ) {y:V} {u:SY} (ry:RelV y u):KV (putK kvs k y) (stored vs k u):=by
 unfold putK stored;rw [r.any k];by_cases e:(vs.any fun kv=>decide (kv.1=k))=true
 ·rw [if_pos e,if_pos e]; exact r.repl k ry
 ·rw [if_neg e,if_neg e]; exact Paired.snoc r ⟨rfl,ry⟩
theorem KV.keys {kvs:List (κ×V)} {vs:List (κ×SY)} (r:KV kvs vs):kvs.map (·.1)=vs.map (·.1):=by
 unfold KV at r
 induction r with
 | nil=>rfl
 | cons h t ih=>rw [Pq,Pq,ih,h.1]
theorem KV.length {kvs:List (κ×V)} {vs:List (κ×SY)} (r:KV kvs vs):kvs.length=vs.length:=Paired.length r
end


theorem Br {P:S0} {w:SZ} {k:Key} {u:SY} (r:RelV (kV k) u):(cn P w).is k u=true:=by
 cases k with
 | inl i=>obtain⟨t,e⟩:=(show ∃ t,u=Value.int i t from r); subst e; exact yP P w i t
 | inr x=>obtain⟨t,e⟩:=(show ∃ t,u=Value.str x t from r); subst e; exact x4 P w x t
theorem vC {P:S0} {w:SZ}:∀ {ks:List Key} {us:List SY},Vals (ks.map kV) us->ItemsAre (cn P w) ks us
 | [],_,r=>by rw [PX] at r; cases r; exact .nil
 | k::ks,_,r=>by
  rw [Pq] at r;cases r with
  | cons h t=>exact .cons (Br h) (vC t)

abbrev KT (H:Hp):List (List Key×V)->List (List Key×S3×SY)->Prop:=S4 fun p q=>p.1=q.1/\H q.2.1=some (.tup (p.1.map kV))/\RelV p.2 q.2.2
theorem KT.val {H:Hp} {kvs:List (List Key×V)} {xs:List (List Key×S3×SY)} (r:KT H kvs xs) (k:List Key):sG (jB kvs k) ((atKey xs k).map (·.2)):=by
 induction r with
 | nil=>exact True.intro
 | @cons p q ps qs h t ih =>
  obtain⟨h1,_,h2⟩:=h;by_cases e:p.1=k
  ·have e':q.1=k:=h1.symm.trans e;have b:atKey (q::qs) k=some q.2:=(by simp [atKey,PY,e']);rw [kW e,b]; exact h2
  ·have e':¬ q.1=k:=fun z=>e (h1.trans z);have b:atKey (q::qs) k=atKey qs k:=(by simp [atKey,PY,e']);rw [jx e,b]; exact ih
theorem KT.repl {H:Hp} {kvs:List (List Key×V)} {xs:List (List Key×S3×SY)} (r:KT H kvs xs) (k:List Key) {y:V} {u:SY} (ry:RelV y u) :
  KT H (kvs.map fun kv=>if kv.1=k then (kv.1,y) else kv) (xs.map (putAt k u)):=by
 induction r with
 | nil=>exact .nil
 | @cons p q ps qs h t ih =>
  rw [Pq,Pq];refine .cons ?_ ih;obtain⟨h1,h2,h3⟩:=h;unfold putAt;by_cases e:p.1=k
  ·rw [if_pos e,if_pos (h1.symm.trans e)]; exact⟨h1,h2,ry⟩
  ·rw [if_neg e,if_neg (fun z=>e (h1.trans z))]; exact⟨h1,h2,h3⟩
theorem KT.put {H:Hp} {kvs:List (List Key×V)} {xs:List (List Key×S3×SY)} (r:KT H kvs xs) (k:List Key) {b:S3} {y:V} {u:SY} (hb:H b=some (.tup (k.map kV))) (ry:RelV y u) :
  KT H (putK kvs k y) (storedH xs k b u):=by
 have e:(kvs.any fun kv=>decide (kv.1=k))=(atKey xs k).isSome:=by
  rw [t6,(r.val k).isSome_eq,P4]
 unfold putK storedH;rw [e];by_cases q:(atKey xs k).isSome=true
 ·rw [if_pos q,if_pos q]; exact r.repl k ry
 ·rw [if_neg q,if_neg q]; exact Paired.snoc r ⟨rfl,hb,ry⟩
theorem KT.keeps {H H':Hp} {kvs:List (List Key×V)} {xs:List (List Key×S3×SY)} (r:KT H kvs xs) (ht:∀ b ys,H b=some (.tup ys)->H' b=some (.tup ys)):KT H' kvs xs :=
 Paired.mapP r fun _ _ z=>⟨z.1,ht _ _ z.2.1,z.2.2⟩

section
variable {P:S0} {w:SZ} {H:Hp} {h:S5} {a:S3}
theorem HC {u:HO} (ok:pA P w H h) (e:Rd H a u):cK P w H h a u:=e.ok ok
theorem AV {kvs:List (Key×V)} (ok:pA P w H h) (e:Rd H a (.dK kvs)):kvs.length<=S6/\(a==sysModules)=false/\∃ vs,KV kvs vs/\h.DictOf (cn P w) a vs :=
 show cK P w H h a (.dK kvs) from HC ok e
theorem HH {kvs:List (Key×V)} (ok:pA P w H h) (e:H a=some (.dK kvs)):kvs.length<=S6/\(a==sysModules)=false/\∃ vs,KV kvs vs/\h.DictOf (cn P w) a vs:=AV ok (.inl e)
theorem oR {ks:List Key} (ok:pA P w H h) (e:H a=some (.tup (ks.map kV))):(tupleKind (cn P w)).is h ks a:=by
 obtain⟨_,its,r,o,h1,h2,n,h3⟩:=(show cK P w H h a (.tup (ks.map kV)) from ok a _ e)
 exact⟨o,its.toArray,n,h1,h2,h3,by simpa using vC r⟩
theorem yB {kvs:List (List Key×V)} (ok:pA P w H h) (e:Rd H a (.dT kvs)):kvs.length<=S6/\(a==sysModules)=false /\
  ∃ xs,KT H kvs xs/\h.DictOfH (tupleKind (cn P w)) a xs:=by
 obtain⟨z,y,xs,r,o,es,ep,h1,h2,h3,h4,h5⟩:=(show cK P w H h a (.dT kvs) from HC ok e)
 refine⟨z,y,xs,r,o,es,ep,h1,h2,h3,h4,fun x hx=>?_,h5⟩;have all:∀ {l:List (List Key×V)} {m:List (List Key×S3×SY)},KT H l m->∀ x∈m,(tupleKind (cn P w)).is h x.1 x.2.1:=by
  intro l m q
  induction q with
  | nil=>intro x hx; exact nomatch hx
  | @cons p q ps qs hq t ih =>
   intro x hx;rcases List.mem_cons.mp hx with e | hx
   ·subst e;exact oR ok (by rw [<- hq.1]; exact hq.2.1)
   ·exact ih x hx
 exact all r x hx
theorem HS {kvs:List (List Key×V)} (ok:pA P w H h) (e:H a=some (.dT kvs)):kvs.length<=S6/\(a==sysModules)=false /\
  ∃ xs,KT H kvs xs/\h.DictOfH (tupleKind (cn P w)) a xs:=yB ok (.inl e)
end

def DU (H:Hp) (a:S3) (y:V) (r:Option V):Prop :=
 (∃ kvs k,Rd H a (.dK kvs)/\y=kV k/\r=jB kvs k)\/∃ kvs k b,Rd H a (.dT kvs)/\y=.ref b/\H b=some (.tup (k.map kV))/\r=jB kvs k
def JE (H:Hp) (a:S3) (y v:V) (H':Hp):Prop :=
 (∃ kvs k,H a=some (.dK kvs)/\y=kV k/\kvs.length < S6/\H'=upd H a (.dK (putK kvs k v))) \/
 ∃ kvs k b,H a=some (.dT kvs)/\y=.ref b/\H b=some (.tup (k.map kV))/\kvs.length < S6/\H'=upd H a (.dT (putK kvs k v))
theorem DU.t {H:Hp} {a b:S3} {kvs:List (List Key×V)} {k:List Key} (e:H a=some (.dT kvs)) (eb:H b=some (.tup (k.map kV))):DU H a (.ref b) (jB kvs k):=.inr ⟨kvs,k,b,.inl e,rfl,eb,rfl⟩
theorem JE.k {H:Hp} {a:S3} {kvs:List (Key×V)} {k:Key} {v:V} (e:H a=some (.dK kvs)) (hl:kvs.length < S6):JE H a (kV k) v (upd H a (.dK (putK kvs k v))):=.inl ⟨kvs,k,e,rfl,hl,rfl⟩
theorem JE.t {H:Hp} {a b:S3} {kvs:List (List Key×V)} {k:List Key} {v:V} (e:H a=some (.dT kvs)) (eb:H b=some (.tup (k.map kV))) (hl:kvs.length < S6) :
  JE H a (.ref b) v (upd H a (.dT (putK kvs k v))):=.inr ⟨kvs,k,b,e,rfl,eb,hl,rfl⟩


section
variable {X:Cx} {pins:List (S3×Obj)} {σ:St} {H:Hp} {s:Tc} {a:S3} {y v:V} {u r:SY} {o:Option V} {A:Tb} {E:SY->Tc->Prop}

theorem Inv.big (I:Inv X pins σ H s):sysModules < s.heap.objs.size:=by
 have h:S8 < s.heap.objs.size:=(I.mod.glob.keeps I.bk).lt;exact P5 (by decide) h

theorem BP {Q:SY->Tc->Prop} (hu:A.units+1 < TJ) (I:Inv X pins σ H s) (g:DU H a y (some v)) (ry:RelV y u) (h:∀ w' s',Inv X pins σ H s'->RelV v w'->Q w' s') :
  Te (model X.prog X.w) A (getItem (.ref a) u) Q E s:=by
 rcases g with ⟨kvs,k,e,ey,l⟩ | ⟨kvs,k,b,e,ey,eb,l⟩
 ·subst ey;obtain⟨z,hd,vs,rel,dd⟩:=AV I.hok e;obtain⟨w',hw,rw'⟩:=sG.some_of (v:=v) (o:=valueAt vs k) (by rw [l]; exact rel.val k);exact wpAny_getItem_of (Br ry) dd.mapOf hw (h w' _ (I.tok _) rw')
 ·subst ey;cases (show u=Value.ref b from ry);obtain⟨z,hd,xs,rel,dd⟩:=yB I.hok e;obtain⟨w',hw,rw'⟩:=sG.some_of (v:=v) (o:=(atKey xs k).map (·.2)) (by rw [l]; exact rel.val k);obtain⟨p,hp,hp2⟩:=Option.map_eq_some_iff.mp hw;refine wpAny_getItem_heap (Ud hu) (oR I.hok eb) dd hp ?_;rw [hp2];exact h w' _ (I.tok _) rw'
theorem AX {Q:SY->Tc->Prop} (hu:A.units+1 < TJ) (I:Inv X pins σ H s) (g:DU H a y o) (ry:RelV y u) (h:∀ s',Inv X pins σ H s'->Q (.bool (!o.isSome)) s') :
  Te (model X.prog X.w) A (Tv .NotIn u (.ref a)) Q E s:=by
 rcases g with ⟨kvs,k,e,ey,l⟩ | ⟨kvs,k,b,e,ey,eb,l⟩
 ·subst ey;obtain⟨z,hd,vs,rel,dd⟩:=AV I.hok e;refine wpAny_notIn_of (Br ry) hd dd.mapOf ?_;rw [<- (rel.val k).isSome_eq,<- l];exact h _ (I.tok _)
 ·subst ey;cases (show u=Value.ref b from ry);obtain⟨z,hd,xs,rel,dd⟩:=yB I.hok e;refine wpAny_notIn_heap (Ud hu) (oR I.hok eb) hd dd ?_;have q:=(rel.val k).isSome_eq;rw [P4] at q;rw [<- q,<- l];exact h _ (I.tok _)
theorem nq {h':S5} {t':Nat} {ob:HO} (I:Inv X pins σ H s) (mu:K9 (H a)) (hs:Sl a s.heap h') (he:∃ q,h'.get? a=some q) (new:cK X.prog X.w (upd H a ob) h' a ob) :
  Inv X pins σ (upd H a ob) { s with heap:=h',toks:=t' } :=
 I.write (x:=a) (e:=a) mu (.inl rfl) (fun b q hb z=>(hs.2 b hb).trans z) he new
theorem Io {P:S0} {w:SZ} {H':Hp} {h':S5} {kvs:List (Key×V)} {vs:List (Key×SY)} (z:kvs.length<=S6) (hd:(a==sysModules)=false) (rel:KV kvs vs) (dd:h'.DictOf (cn P w) a vs) :
  cK P w H' h' a (.dK kvs):=⟨z,hd,vs,rel,dd⟩
theorem oq {H':Hp} {Q:Unit->Tc->Prop} (hu:A.units+1 < TJ) (I:Inv X pins σ H s) (g:JE H a y v H') (ry:RelV y u) (rv:RelV v r) (h:∀ s',Inv X pins σ H' s'->Q () s') :
  Te (model X.prog X.w) A (setItem (.ref a) u r) Q E s:=by
 rcases g with ⟨kvs,k,e,ey,l,eH⟩ | ⟨kvs,k,b,e,ey,eb,l,eH⟩
 ·subst ey eH;obtain⟨z,hd,vs,rel,dd⟩:=HH I.hok e;have hz:vs.length<=S6:=by rw [<- rel.length]; exact z
  have hl:(putK kvs k v).length<=S6:=by have:=jQ kvs k v; omega
  refine wpAny_setItem_pairs (hsz:=hz) (Br ry) dd fun h' dd' hs=>h _ ?_;have he:∃ q,h'.get? a=some q:=let ⟨q,_,_,hq,_⟩:=dd'; ⟨q,hq⟩
  exact nq I (by rw [e]; exact True.intro) hs he (Io hl hd (rel.put k rv) dd')
 ·subst ey eH;cases (show u=Value.ref b from ry);obtain⟨z,hd,xs,rel,dd⟩:=HS I.hok e;have hz:xs.length<=S6:=by rw [<- Paired.length rel]; exact z
  have hl:(putK kvs k v).length<=S6:=by have:=jQ kvs k v; omega
  refine wpAny_setItem_heap (hsz:=hz) (Ud hu) (oR I.hok eb) dd fun h' dd' hs=>h _ ?_;obtain⟨q,es,ep,hq,h2,h3,h4,_,h5⟩:=dd';refine nq I (by rw [e]; exact True.intro) hs ⟨q,hq⟩ ⟨hl,hd,_,(rel.put k eb rv).keeps fun c ys ec=>?_,q,es,ep,hq,h2,h3,h4,h5⟩;rw [aE (Fi ec e (fun z=>nomatch z))];exact ec
end



def G5 (i:Tf):Prop:=∀ ov iv,subscripted i false ov iv=operate [ov,iv] (getItem ov iv)
theorem Fz {prog:S0} {w:SZ} {A:Tb} {E:SY->Tc->Prop} {s:Tc} {env:Env} {value slice:Tf} {pos:Pos} {T id:String} {Q:SY->Tc->Prop}
  (hl:typeLookup (.type T) "__getitem__"=pure (some (.builtin id))) (hs:G5 slice)
  (h:Te (model prog w) A (eval value env) (fun o s₁=>Te (model prog w) A (eval slice env) (fun i s₂=>s₂.TypeIs o T/\Te (model prog w) A (getItem o i) Q E s₂) E s₁) E s) :
  Te (model prog w) A (eval (.Subscript value slice pos) env) Q E s:=by
 refine Ub (Ti h (fun o s₁ h₁=>Ti h₁ (fun i s₂ h₂=>?_) fun _ _ x=>x) fun _ _ x=>x);obtain⟨hT,h₂⟩:=h₂;unfold subscriptTail;refine Tp ?_;rw [getitemInPython_of_ne hT.not_modules];refine Tp (wpAny_specialOf hT hl ?_);have fin:Te (model prog w) A (subscripted slice false o i) (fun r s₃=>Te (model prog w) A (letTemporaryGo value o r >>= fun _=>pure r) Q E s₃) E s₂:=by
  rw [hs o i];exact wpAny_operating (Ti h₂ (fun r s₃ h₃=>Tp (wpAny_letTemporaryGo (To h₃))) fun _ _ x=>x)
 first
  | exact To (Tp fin)
  | exact Tp (To (Tp fin))
  | exact Tp fin

theorem yG {X:Cx} {pins:List (S3×Obj)} {σ:St} {H:Hp} {s:Tc} {a:S3} {y:V} {o:Option V} (I:Inv X pins σ H s) (g:DU H a y o):s.TypeIs (.ref a) "dict":=by
 rcases g with ⟨kvs,k,e,_,_⟩ | ⟨kvs,k,b,e,_,_,_⟩
 ·obtain⟨_,_,vs,_,dd⟩:=AV I.hok e;exact dd.typeIs
 ·obtain⟨_,_,xs,_,dd⟩:=yB I.hok e;exact dd.typeIs
def KS (td ty:TE):TE:=fun σ H Q=>td σ H fun x H1=>ty σ H1 fun y H2=>∃ a v,x=.ref a/\DU H2 a y (some v)/\Q v H2
section
variable {X:Cx} {o i e value:Tf} {pos pos' tpos:Pos} {td ty tv:TE}
theorem GW (hu:X.A.units+1 < TJ) (ho:PE X o td) (hi:PE X i ty) (hs:G5 i):PE X (.Subscript o i pos) (KS td ty):=by
 intro pins s σ H Q I h;refine Fz PySem.F.slot_dict_getitem.lookup hs (eZ (ho pins s σ H _ I h) fun u s1 ⟨x,H1,I1,rx,q1⟩=>eZ (hi pins s1 σ H1 _ I1 q1) fun iv s2 ⟨y,H2,I2,ry,a,v,ex,g,q2⟩=>?_);subst ex;obtain rfl:u=Value.ref a:=rx;exact⟨yG I2 g,BP hu I2 g ry fun w' s3 I3 rw'=>⟨v,H2,I3,rw',q2⟩⟩
end


theorem DK {P:S0} {w:SZ} {H:Hp} (h:S5) (hb:sysModules < h.objs.size):cK P w H (h.push { cls:=.type "dict",data:=.dict #[] }) h.objs.size (.dT []) :=
 ⟨Pu _,beq_eq_false_iff_ne.mpr (Ne.symm (O1 hb)),[],.nil,_,#[],0,Sq _ rfl,⟨rfl,rfl,rfl⟩,rfl,rfl,P6⟩
def Jz:TE:=fun _ H Q=>∀ p,H p=none->Q (.ref p) (upd H p (.dT []))
section
variable {X:Cx} {pos:Pos}
theorem D7:PE X (.Dict [] [] pos) Jz:=fun pins s σ H Q I h =>
 wpAny_Dict_empty ⟨.ref s.heap.objs.size,_,I.laid (a:=s.heap.objs.size) (o:=.dT []) (t':=s.toks) (fun _ _ q=>Sn _ q) (Ph _) (DK s.heap I.big),rfl,h _ (I.hok.fresh (Ph _))⟩
end





end L2
namespace L2
open PySem PySem.Spec PyProof.Rows
end L2
namespace L2
open PySem PySem.Spec PyProof.Rows

def d7 (cells:List (Str×S3)):List (Str×TR)->List (Str×S3)->List (Str×S3)
 | [],acc=>acc
 | (n,k)::r,acc=>if k=.free then (match cells.lookup n with | some c=>d7 cells r ((n,c)::acc) | none=>d7 cells r acc) else d7 cells r acc
theorem nT {cells:List (Str×S3)}:∀ (names:List (Str×TR)) (acc:List (Str×S3)),(∀ x c,acc.lookup x=some c->cells.lookup x=some c) ->
  ∀ x c,(d7 cells names acc).lookup x=some c->cells.lookup x=some c
 | [],acc,h=>h
 | (n,k)::r,acc,h=>by
  unfold d7;by_cases hk:k=.free
  ·rw [if_pos hk];cases e:cells.lookup n with
   | none=>exact nT r acc h
   | some c0 =>
    refine nT r _ fun x c q=>?_;rw [P7] at q;cases hx:x==n with
    | true =>
     rw [hx] at q;have e1:x=n:=(by simpa using hx);cases q;rw [e1]; exact e
    | false=>rw [hx] at q; exact h x c q
  ·rw [if_neg hk]; exact nT r acc h
theorem lJ {cells:List (Str×S3)}:∀ (names:List (Str×TR)) (acc:List (Str×S3)) (x:Str),(acc.lookup x).isSome=true->((d7 cells names acc).lookup x).isSome=true
 | [],acc,x,h=>h
 | (n,k)::r,acc,x,h=>by
  unfold d7;by_cases hk:k=.free
  ·rw [if_pos hk];cases e:cells.lookup n with
   | none=>exact lJ r acc x h
   | some c0 =>
    refine lJ r _ x ?_;rw [P7];cases hx:x==n with
    | true=>rfl
    | false=>exact h
  ·rw [if_neg hk]; exact lJ r acc x h
theorem kD {cells:List (Str×S3)}:∀ (names:List (Str×TR)) (acc:List (Str×S3)) (x:Str),(x,NameKind.free)∈names->(∃ c,cells.lookup x=some c)->((d7 cells names acc).lookup x).isSome=true
 | [],acc,x,h,_=>absurd h (by simp)
 | (n,k)::r,acc,x,h,hc=>by
  unfold d7;rcases List.mem_cons.mp h with e | h
  ·cases e;rw [if_pos rfl];obtain⟨c,e⟩:=hc;rw [e];refine lJ r _ _ ?_;rw [P7];simp
  ·by_cases hk:k=.free
   ·rw [if_pos hk];cases e:cells.lookup n with
    | none=>exact kD r acc x h hc
    | some c0=>exact kD r _ x h hc
   ·rw [if_neg hk]; exact kD r acc x h hc
theorem o4 {scope:Td} {env:Env} (h:∀ p∈scope.names,p.2=.free->∃ c,env.cells.lookup p.1=some c):closureFor scope env=pure (d7 env.cells scope.names []):=by
 have go:∀ (names:List (Str×TR)) (acc:List (Str×S3)),(∀ p∈names,p.2=.free->∃ c,env.cells.lookup p.1=some c) ->
   (forIn names acc fun x cs=>(match x with | (name,kind)=>if (kind==NameKind.free)=true then do let a <- cellOf env name; pure (ForInStep.yield ((name,a)::cs)) else pure (ForInStep.yield cs):Sem (ForInStep (List (Str×S3)))))=pure (d7 env.cells names acc):=by
  intro names
  induction names with
  | nil=>intro acc _; rfl
  | cons p r ih =>
   intro acc hp;obtain⟨n,k⟩:=p;rw [P8];by_cases hk:k=.free
   ·obtain⟨c,e⟩:=hp (n,k) O6 hk;subst hk;have e2:cellOf env n=pure c:=(by unfold cellOf; rw [e]);simp only [beq_self_eq_true,if_true,e2,pure_bind];rw [ih _ fun q hq=>hp q (O7 _ hq)]
    conv=>rhs; rw [d7]
    simp [e]
   ·have hb:(k==NameKind.free)=false:=(by simpa using hk);simp only [hb,P9,if_false,pure_bind];rw [ih _ fun q hq=>hp q (O7 _ hq)]
    conv=>rhs; rw [d7,if_neg hk]
 have:=go scope.names [] h
 unfold closureFor;simp only [];rw [this];rfl

def cS (X:Cx) (scope:Td) (N:List Str) (cl:List (Str×S3)) (C:S3) (fp:List S3) (s:Tc) (H:Hp) (E:SY->Tc->Prop):Cx where
 prog:=X.prog
 w:=X.w
 K:=X.K
 mg:=X.mg
 base:=X.base
 A:=X.A
 N:=N
 s₀:=s
 H₀:=H
 env:=compEnvC scope cl C X.env
 outer:=X.stack
 stack:=X.stack
 ex:=fp
 fn:=fun _=>false
 calm:=X.calm
 pn:=[]
 xe:=E

def xH (XN N:List Str) (names:List (Str×TR)) (ix:List (Option Nat)):Bool :=
 decide (ix.length=N.length) && (N.zip ix).all fun p=>match p.2 with
  | some i=>decide (XN[i]?=some p.1) && decide (names.lookup p.1=some .free)
  | none=>true
def inBlock (ix:List (Option Nat)) (σ:St):St:=ix.map fun o=>match o with
 | some i=>(σ[i]?).getD none
 | none=>none
theorem xH.len {XN N:List Str} {names:List (Str×TR)} {ix:List (Option Nat)} (h:xH XN N names ix=true):ix.length=N.length:=by
 unfold xH at h;rw [PP] at h;exact of_decide_eq_true h.1
theorem xH.at_ {XN N:List Str} {names:List (Str×TR)} {ix:List (Option Nat)} (h:xH XN N names ix=true) {j i:Nat} {x:Str} (h1:N[j]?=some x) (h2:ix[j]?=some (some i)):XN[i]?=some x/\names.lookup x=some .free:=by
 unfold xH at h;rw [PP] at h;have hm:(x,some i)∈N.zip ix:=by
  have e:(N.zip ix)[j]?=some (x,some i):=by rw [List.getElem?_zip_eq_some]; exact⟨h1,h2⟩
  exact PJ e
 have q:=List.all_eq_true.mp h.2 _ hm;simp only [PP] at q;exact⟨of_decide_eq_true q.1,of_decide_eq_true q.2⟩

theorem mR {env:Env}:∀ {names:List (Str×TR)} {x:Str} {k:TR},
  (names.map fun (n,k)=>if (k==NameKind.free && env.scope.kind==.function && env.kindOf n==some .cell) then (n,NameKind.cell) else (n,k)).lookup x=some k ->
  names.lookup x=some k\/(names.lookup x=some .free/\k=.cell)
 | [],_,_,h=>by simp at h
 | (n,k0)::r,x,k,h=>by
  have ih:=@mR env r x k
  replace h:List.lookup x ((if (k0==NameKind.free && env.scope.kind==.function && env.kindOf n==some .cell)=true then (n,NameKind.cell) else (n,k0))::(r.map fun (n,k)=>if (k==NameKind.free && env.scope.kind==.function && env.kindOf n==some .cell) then (n,NameKind.cell) else (n,k)))=some k:=h
  by_cases hc:(k0==NameKind.free && env.scope.kind==.function && env.kindOf n==some .cell)=true
  ·rw [if_pos hc] at h;have hk0:k0=.free:=by
    simp only [PP] at hc
    simpa using hc.1.1
   cases hx:x==n with
   | true =>
    simp only [P7,hx] at h;simp only [P7,hx];cases h;exact .inr ⟨by rw [hk0],rfl⟩
   | false =>
    simp only [P7,hx] at h ⊢;exact ih h
  ·rw [if_neg hc] at h;cases hx:x==n with
   | true =>
    simp only [P7,hx] at h ⊢;exact .inl h
   | false =>
    simp only [P7,hx] at h ⊢;exact ih h
def JC (X:Cx) (ifs:List Tf) (t:TT):Prop :=
 ∀ (pins:List (S3×Obj)) (s:Tc) (σ:St) (H:Hp) (Q:Bool->Hp->Prop),Inv X pins σ H s->t σ H Q ->
  Te (model X.prog X.w) X.A (forIn ifs true fun c r=>if r=true then do let ok <- isTrue c X.env (eval c X.env); pure (ForInStep.yield ok) else pure (ForInStep.yield r)) (TP X pins σ Q) X.xe s
def K2:TT:=fun _ H Q=>Q true H
theorem Hk {X:Cx}:JC X [] K2:=fun _ _ _ H _ I h=>wpAny_tests_nil ⟨H,I,h⟩
theorem Gr {X:Cx} {c:Tf} {t:TT} (h:PT X c t):JC X [c] t:=fun pins s σ H Q I q=>wpAny_tests_one (h pins s σ H Q I q)

theorem nc {prog:S0} {w:SZ} {A:Tb} {R:Result->Tc->Prop} {s:Tc} {elt target iter:Tf} {ifs:List Tf} {scope:Td} {pos:Pos} {it acc:SY} {env:Env} (I:Nat->Tc->Prop)
  (turn:∀ n s,I n s->Te (model prog w) A (pyNext it) (fun r s₁=>match r with
   | none=>R (.ok .next) s₁
   | some v=>Te (model prog w) A (letOwnedTupleGo target it v) (fun _ s₁'=>Te (model prog w) A (assign target env v) (fun _ s₂ =>
     Te (model prog w) A (forIn ifs true fun c r=>if r=true then do let ok <- isTrue c env (eval c env); pure (ForInStep.yield ok) else pure (ForInStep.yield r)) (fun ok s₃ =>
      if ok=true then Te (model prog w) A (eval elt env) (fun x s₄ =>
       Te (model prog w) A (call (.builtin "list.append") [acc,x]) (fun _ s₅=>∃ m,m < n/\I m s₅) (notedBy (model prog w) A env fun e s'=>R (.error e) s') s₄) (notedBy (model prog w) A env fun e s'=>R (.error e) s') s₃
      else ∃ m,m < n/\I m s₃) (notedBy (model prog w) A env fun e s'=>R (.error e) s') s₂) (notedBy (model prog w) A env fun e s'=>R (.error e) s') s₁') (notedBy (model prog w) A env fun e s'=>R (.error e) s') s₁) (notedBy (model prog w) A env fun e s'=>R (.error e) s') s)
  (n:Nat) (h:I n s) :
  Tz (model prog w) A (.compLoop (.ListComp elt [⟨target,iter,ifs,0⟩] scope pos) 0 it acc env) R s:=by
 refine codeAny_loop rfl I (fun n s hI=>?_) n h;show Te _ A ((compTurn (.ListComp elt [⟨target,iter,ifs,0⟩] scope pos) 0 it acc env).onRaise (fun x=>do noteFrame x env; theTreesLotGoes x)) _ _ s;refine wpAny_noted ?_;rw [compTurn_list];refine Tp (Ue (Tp (Ti (turn n s hI) (fun r s₁ h₁=>?_) fun _ _ h'=>h')));cases r with
 | none=>exact To h₁
 | some v =>
  refine Tp (Ti h₁ (fun _ s₁' h₁'=>?_) fun _ _ h'=>h');refine Tp (Ti h₁' (fun _ s₂ h₂=>Tp (Ti h₂ (fun ok s₃ h₃=>?_) fun _ _ h'=>h')) fun _ _ h'=>h');cases ok with
  | false=>exact To ⟨rfl,h₃⟩
  | true =>
   exact Tp (Tp (Ti h₃ (fun x s₄ h₄=>Tp (Ti h₄ (fun _ s₅ h₅=>To (To ⟨rfl,h₅⟩)) fun _ _ h'=>h')) fun _ _ h'=>h'))

def Mf (wi:TI) (g:TG) (tc:TT) (te:TE) (ix:List (Option Nat)):TE:=fun σ H Q =>
 wi σ H fun J H1=>∀ D,H1 D=none->∃ W:Nat->Nat->St->Hp->Prop,(∃ m,W 0 m (inBlock ix σ) (upd H1 D (.lst []))) /\
  ∀ i m σ' H',W i m σ' H'->(J.stop i H'/\Q (.ref D) H') \/
   (J.go i H'/\∀ x H2,J.yld i H' x H2->g x σ' H2 fun σ3 H3=>tc σ3 H3 fun b H4 =>
    if b=true then te σ3 H4 fun v H5=>∃ acc,H5 D=some (.lst acc)/\acc.length < S6/\∃ m',m' < m/\W (i+1) m' σ3 (upd H5 D (.lst (acc++[v])))
    else ∃ m',m' < m/\W (i+1) m' σ3 H4)

section
variable {X:Cx} {elt tg iter:Tf} {ifs:List Tf} {scope:Td} {pos:Pos} {N:List Str} {ix:List (Option Nat)} {wi:TI} {g:TG} {tc:TT} {te:TE}

theorem uq {pins:List (S3×Obj)} {σ:St} {s2:Tc} {H2:Hp} {it:S3} {fp:List S3} {tn:Nat->S5->Prop} {J:It} {Q:V->Hp->Prop} {E:SY->Tc->Prop} {RR:SY->S3->Result->Tc->Prop}
    (hc:X.calm=true) (hcell:∀ y∈scope.names,y.2≠.cell) (hkind:scope.kind=.function)
    (hfr:∀ y∈scope.names,y.2=.free->X.env.scope.names.lookup y.1=some .cell\/X.env.scope.names.lookup y.1=some .free)
    (hix:xH X.N N scope.names ix=true)
    (hb:∀ cl C fp s H E,PG (cS X scope N cl C fp s H E) tg g/\JC (cS X scope N cl C fp s H E) ifs tc/\PE (cS X scope N cl C fp s H E) elt te)
    (I2:Inv X pins σ H2 s2) (T:Turn X.prog X.w X.K tg J fp it tn) (st2:tn 0 s2.heap) (f2:∀ b∈fp,uI X pins H2 b)
    (q:∀ D,H2 D=none->∃ W:Nat->Nat->St->Hp->Prop,(∃ m,W 0 m (inBlock ix σ) (upd H2 D (.lst []))) /\
      ∀ i m σ' H',W i m σ' H'->(J.stop i H'/\Q (.ref D) H') \/
        (J.go i H'/\∀ x H3,J.yld i H' x H3->g x σ' H3 fun σ3 H3=>tc σ3 H3 fun b H4 =>
          if b=true then te σ3 H4 fun v H5=>∃ acc,H5 D=some (.lst acc)/\acc.length < S6/\∃ m',m' < m/\W (i+1) m' σ3 (upd H5 D (.lst (acc++[v])))
          else ∃ m',m' < m/\W (i+1) m' σ3 H4))
    (hRR:∀ D C H' s' m,H2 D=none->s2.heap.objs.size<=C->H' C=none->s'.heap.Ns C m->(∀ h',Sl C s'.heap h'->Inv X pins σ H' { s' with heap:=h' })->Q (.ref D) H'->RR (.ref D) C (.ok .next) s') :
    Te (model X.prog X.w) X.A (newList []) (fun acc s₃=>Te (model X.prog X.w) X.A (newFunctionEnv scope X.env.globals (d7 X.env.cells scope.names []) [] X.env.qual none .none (some X.env)) (fun cenv s₄ =>
      Tz (model X.prog X.w) X.A (.compStart (.ListComp elt [⟨tg,iter,ifs,0⟩] scope pos) 0 (.ref it) acc { cenv with scope:=relabel scope X.env }) (RR acc cenv.locals) s₄) E s₃) E s2:=by
  refine T9 (wpAny_newFunctionEnv hcell (by intro y hy; simp at hy) (fun h₁ hns₁ hsb₁=>?_) hkind);dsimp only at hns₁ hsb₁ ⊢;have I3:Inv X pins σ (upd H2 s2.heap.objs.size (.lst [])) { s2 with heap:=s2.heap.push { cls:=.type "list",dict:=none,data:=.seq ([]:List SY).toArray },toks:=s2.toks }:=I2.lnew (its:=[]) (t':=s2.toks) .nil (Pu _);generalize hs3:({ s2 with heap:=s2.heap.push { cls:=.type "list",dict:=none,data:=.seq ([]:List SY).toArray },toks:=s2.toks }:Tc)=s3 at I3;have eh3:s2.heap.push { cls:=.type "list",dict:=none,data:=.seq ([]:List SY).toArray }=s3.heap:=by rw [<- hs3]
  rw [eh3] at hns₁ hsb₁ ⊢;have hC3:s3.heap.objs.size=s2.heap.objs.size+1:=by rw [<- eh3,Sr]
  have hD:H2 s2.heap.objs.size=none:=I2.fresh;obtain⟨W,⟨m0,w0⟩,turn⟩:=q s2.heap.objs.size hD;generalize hH3:upd H2 s2.heap.objs.size (.lst [])=H3 at I3 w0;have old:∀ b o,s3.heap.get? b=some o->h₁.get? b=some o:=fun b o e=>hsb₁.extBut b o (O1 (Si e)) (Sn _ e);have fpH3:∀ b∈fp,H3 b=none:=fun b hb'=>by
    rw [<- hH3,aE]
    · exact(f2 b hb').1
    · obtain⟨o,e,_⟩:=T.obj _ _ st2 b hb'
      exact O1 (Si e)
  have fpLt:∀ b∈fp,b < s3.heap.objs.size:=fun b hb'=>by
    obtain⟨o,e,_⟩:=T.obj _ _ st2 b hb';rw [hC3]; exact Qa (Si e)
  have hfree:∀ p∈scope.names,p.2=.free->∃ c,X.env.cells.lookup p.1=some c:=fun p hp hk=>I2.ok.has p.1 (hfr p hp hk);have csub:∀ x c,(d7 X.env.cells scope.names []).lookup x=some c->X.env.cells.lookup x=some c:=nT scope.names [] (fun x c e=>by simp at e);have names':∀ x k,(relabel scope X.env).names.lookup x=some k->scope.names.lookup x=some k\/(scope.names.lookup x=some .free/\k=.cell):=fun x k h=>mR h;have ok:(cS X scope N (d7 X.env.cells scope.names []) s3.heap.objs.size fp s3 H3 (notedBy (model X.prog X.w) X.A (compEnvC scope (d7 X.env.cells scope.names []) s3.heap.objs.size X.env) fun e s'=>RR (.ref s2.heap.objs.size) s3.heap.objs.size (.error e) s')).Ok :=
    { mod:=I3.ok.mod
      kind:=hkind
      glob:=I3.ok.glob
      blt:=I3.ok.blt
      above:=Ph _
      inj:=fun x y c h1 h2=>I3.ok.inj x y c (csub x c h1) (csub y c h2)
      has:=fun x hx=>by
        have fr:scope.names.lookup x=some .free:=by
          rcases hx with hx | hx
          · rcases names' x .cell hx with h | ⟨h,_⟩
            · exact absurd rfl (hcell _ (PySem.mem_of_lookup h))
            · exact h
          · rcases names' x .free hx with h | ⟨_,h⟩
            · exact h
            · cases h
        have hm:=PySem.mem_of_lookup fr;exact Option.isSome_iff_exists.mp (kD scope.names [] x hm (hfree _ hm rfl))
      cab:=fun x c h _=>by cases h
      hd:=I3.ok.hd
      frames:=I3.ok.frames
      stk:=.inl rfl
      exf:=fun b hb'=>⟨O1 (fpLt b hb'),fun x c e=>(f2 b hb').2.2.2.2.1 x c (csub x c e)⟩
      bs:=fun b o e=>I3.bs b o e
      bsz:=O2 I3.ok.bsz I3.sz
      noex:=fun b o e hb'=>by
        obtain⟨_,_,_,h4,_⟩:=f2 b hb';rcases h4 with h4 | h4
        · exact I3.ok.noex b o e h4
        · exact absurd (OZ (Si (I3.ok.bs b o e).1) h4) (O0 _)
      exfs:=fun b hb' hs=>by
        obtain⟨_,h2,h3,_⟩:=f2 b hb';rcases List.mem_cons.mp (I3.stkSub b hs) with e | e
        · exact h2 e
        · exact h3 e
      funs:=I3.stack
      frf:=fun b hb'=>I3.stkFree b hb' }
  generalize hE:(notedBy (model X.prog X.w) X.A (compEnvC scope (d7 X.env.cells scope.names []) s3.heap.objs.size X.env) fun e s'=>RR (.ref s2.heap.objs.size) s3.heap.objs.size (.error e) s')=E' at ok;obtain⟨hg,htc,hel⟩:=hb (d7 X.env.cells scope.names []) s3.heap.objs.size fp s3 H3 E';have Istart:∀ tk,Inv (cS X scope N (d7 X.env.cells scope.names []) s3.heap.objs.size fp s3 H3 E') [] (inBlock ix σ) H3 { s3 with heap:=h₁,toks:=tk }:=fun tk=>by
    refine⟨ok,rfl,I3.bare,Un.kept old,⟨_,hns₁,fun j x v e1 e2 _=>?_⟩,fun x c e=>?_,I3.fresh,fun x c e=>I3.freeC x c (csub x c e),fun p hp=>absurd (show p∈([]:List (S3×Obj)) from hp) (by simp),I3.hok.kept old,?_⟩
    · -- a captured name
      unfold inBlock at e2;rw [PF] at e2;cases q1:ix[j]? with
      | none=>rw [q1] at e2; simp at e2
      | some o =>
        rw [q1] at e2;cases o with
        | none=>simp at e2
        | some i =>
          obtain⟨n1,n2⟩:=xH.at_ hix e1 q1;have e2':(σ[i]?).getD none=some v:=Option.some.inj e2;have e3:σ[i]?=some (some v):=by
            cases q2:σ[i]? with
            | none=>rw [q2] at e2'; simp at e2'
            | some o2=>rw [q2] at e2'; simpa using e2'
          obtain⟨m,hn,hl⟩:=I3.loc;have hm:=PySem.mem_of_lookup n2;have hk:=hfr _ hm rfl;have hv:HY X.env.scope x:=by
            rcases hk with hk | hk
            · exact .inr (.inl hk)
            · exact .inr (.inr hk)
          obtain⟨u,r,l⟩:=hl i x v n1 e3 hv;refine⟨u,r,.inr ?_⟩;rcases l with ⟨kl,_⟩ | ⟨_,c,hcx,hcell'⟩
          · have kl':X.env.scope.names.lookup x=some .local:=kl
            rcases hk with hk | hk
            · rw [kl'] at hk; cases hk
            · rw [kl'] at hk; cases hk
          · obtain⟨c',hc'⟩:=Option.isSome_iff_exists.mp (kD (cells:=X.env.cells) scope.names [] x hm ⟨c,hcx⟩)
            have ec:c'=c:=Option.some.inj ((csub x c' hc').symm.trans hcx);subst ec;refine⟨?_,c',hc',?_⟩
            · -- its kind in the block: cell or free
              show (relabel scope X.env).names.lookup x=some .cell\/(relabel scope X.env).names.lookup x=some .free;have gen:∀ names:List (Str×TR),names.lookup x=some .free->((names.map fun (n,k)=>if (k==NameKind.free && X.env.scope.kind==.function && X.env.kindOf n==some .cell) then (n,NameKind.cell) else (n,k)).lookup x=some .cell\/(names.map fun (n,k)=>if (k==NameKind.free && X.env.scope.kind==.function && X.env.kindOf n==some .cell) then (n,NameKind.cell) else (n,k)).lookup x=some .free):=by
                intro names
                induction names with
                | nil=>intro h; simp at h
                | cons p r ih =>
                  obtain⟨n,k⟩:=p;intro h;show List.lookup x ((if (k==NameKind.free && X.env.scope.kind==.function && X.env.kindOf n==some .cell)=true then (n,NameKind.cell) else (n,k))::_)=_\/List.lookup x ((if (k==NameKind.free && X.env.scope.kind==.function && X.env.kindOf n==some .cell)=true then (n,NameKind.cell) else (n,k))::_)=_;cases hx:x==n with
                  | true =>
                    simp only [P7,hx] at h;by_cases hcc:(k==NameKind.free && X.env.scope.kind==.function && X.env.kindOf n==some .cell)=true
                    · rw [if_pos hcc]; left; simp only [P7,hx]
                    · rw [if_neg hcc]; right; simp only [P7,hx]; exact h
                  | false =>
                    simp only [P7,hx] at h;by_cases hcc:(k==NameKind.free && X.env.scope.kind==.function && X.env.kindOf n==some .cell)=true
                    · rw [if_pos hcc]; simp only [P7,hx]; exact ih h
                    · rw [if_neg hcc]; simp only [P7,hx]; exact ih h
              exact gen scope.names n2
            · exact hcell'.keeps old
    · obtain⟨v,z⟩:=I3.cell x c (csub x c e)
      exact⟨v,z.keeps old⟩
    · show (inBlock ix σ).length=N.length
      unfold inBlock;rw [Pr];exact xH.len hix
  have stat:∀ {H':Hp},(∀ b∈fp,H' b=none)->∀ b∈fp,uI (cS X scope N (d7 X.env.cells scope.names []) s3.heap.objs.size fp s3 H3 E') [] H' b:=fun hn b hb' =>
    ⟨hn b hb',(ok.exf b hb').1,ok.exfs b hb',.inl hb',(ok.exf b hb').2,fun p hp=>absurd (show p∈([]:List (S3×Obj)) from hp) (by simp)⟩
  have tn1:tn 0 h₁:=T.keep _ _ _ st2 fun b hb' o e=>old b o (by rw [<- eh3]; exact Sn _ e);have loop:∀ tk,Tz (model X.prog X.w) X.A (.compLoop (.ListComp elt [⟨tg,iter,ifs,0⟩] scope pos) 0 (.ref it) (.ref s2.heap.objs.size) (compEnvC scope (d7 X.env.cells scope.names []) s3.heap.objs.size X.env))
      (RR (.ref s2.heap.objs.size) s3.heap.objs.size) { s3 with heap:=h₁,toks:=tk }:=by
    intro tk;refine nc (fun n s'=>∃ i σ' H',Inv (cS X scope N (d7 X.env.cells scope.names []) s3.heap.objs.size fp s3 H3 E') [] σ' H' s'/\tn i s'.heap/\(∀ b∈fp,H' b=none)/\W i n σ' H') ?_ m0 ⟨0,_,_,Istart tk,tn1,fpH3,w0⟩;rintro n s5 ⟨i,σ5,H5,I5,st5,fr5,w5⟩;rw [hE];rcases turn i n σ5 H5 w5 with ⟨stop,qn⟩ | ⟨go,step⟩
    · refine eZ (T.done (cS X scope N (d7 X.env.cells scope.names []) s3.heap.objs.size fp s3 H3 E') rfl rfl rfl hc i [] s5 σ5 H5 _ I5 (stat fr5) st5 stop) fun r s6 ⟨hr,I6⟩=>?_
      subst hr;obtain⟨m6,hn6,_⟩:=I6.loc;refine hRR s2.heap.objs.size s3.heap.objs.size H5 s6 m6 hD (by rw [hC3]; exact Px _) I6.free hn6 (fun h' sb=>?_) qn;have ne:∀ b o,s3.heap.get? b=some o->b≠s3.heap.objs.size:=fun b o e=>O1 (Si e);refine I3.call' (s':={ s6 with heap:=h' }) (H':=H5) (ch:=fp) I6.os ⟨fun b o e n hb' hx=>?_,fun b o e n hb' hx=>?_,fun b o e n hx=>?_,fun b o e hx=>?_,I6.base.tups,I6.base.frzs,I6.base.tbls⟩ ?_ I6.bare fun b hb'=>?_
      · exact(sb.2 b (ne b o e)).trans (I6.base.keep b o e n hb' hx)
      · obtain⟨sl,e1⟩:=I6.base.slot b o e n hb' hx
        exact⟨sl,(sb.2 b (ne b o e)).trans e1⟩
      · exact I6.base.free b o e n hx
      · obtain⟨o',e1⟩:=I6.base.there b o e hx
        exact⟨o',(sb.2 b (ne b o e)).trans e1⟩
      · intro b ob e
        have hfreeC:H5 s3.heap.objs.size=none:=I6.free;refine(I6.hok b ob e).stay (fun c v hcc q=>(sb.2 c ?_).trans q) (fun _ q=>q) fun _ _ q=>q;rintro rfl;rcases hcc with rfl | hcc
        · rw [hfreeC] at e; cases e
        · rw [hfreeC] at hcc; cases hcc
      · obtain⟨_,h2',_,h4',h5',h6'⟩:=f2 b hb'
        exact⟨h4',h2',h5',h6'⟩
    · refine eZ (T.item (cS X scope N (d7 X.env.cells scope.names []) s3.heap.objs.size fp s3 H3 E') rfl rfl rfl hc i [] s5 σ5 H5 _ I5 (stat fr5) st5 go) fun r s6 ⟨u,hr,h6⟩=>?_
      subst hr;refine eZ h6 fun _ s7 ⟨x,H7,I7,r7,y7,st7,fr7⟩=>?_;have I7':=I7.pinned (stat fr7) (T.obj _ _ st7);refine eZ (hg _ s7 σ5 H7 x u _ I7' r7 (step x H7 y7)) fun _ s8 ⟨σ8,H8,I8,q8⟩=>?_;refine eZ (htc _ s8 σ8 H8 _ I8 q8) fun b s9 ⟨H9,I9,q9⟩=>?_;have again:∀ {σ':St} {H':Hp} {s':Tc} {m':Nat},Inv (cS X scope N (d7 X.env.cells scope.names []) s3.heap.objs.size fp s3 H3 E') ([]++tQ fp s7.heap) σ' H' s'->m' < n->W (i+1) m' σ' H' ->
          ∃ m,m < n/\∃ i σ' H',Inv (cS X scope N (d7 X.env.cells scope.names []) s3.heap.objs.size fp s3 H3 E') [] σ' H' s'/\tn i s'.heap/\(∀ b∈fp,H' b=none)/\W i m σ' H':=fun {σ' H' s' m'} I' hm w'=>by
        refine⟨m',hm,i+1,σ',H',I'.unpinned,T.keep _ _ _ st7 fun b hb' o e=>(I'.pin (b,o) (Pj _ (Pj _ (lR hb' e)))).1,fun b hb'=>?_,w'⟩;obtain⟨o,e,d⟩:=T.obj _ _ st7 b hb';exact(I'.pin (b,o) (Pj _ (Pj _ (lR hb' e)))).2.1
      cases b with
      | false =>
        rw [if_neg Pn] at q9 ⊢;obtain⟨m',hm,w9⟩:=q9;exact again I9 hm w9
      | true =>
        rw [if_pos rfl] at q9 ⊢;refine eZ (hel _ s9 σ8 H9 _ I9 q9) fun y s10 ⟨v,H10,I10,r10,q10⟩=>?_;obtain⟨acc,ha,hz,m',hm,w10⟩:=q10;refine eZ (d5 _ s10 σ8 H10 (.ref s2.heap.objs.size) [v] (.ref s2.heap.objs.size) [y] (fun _ H'=>H'=upd H10 s2.heap.objs.size (.lst (acc++[v]))) I10 rfl (.cons r10 .nil) ⟨_,acc,v,rfl,rfl,ha,hz,rfl⟩) fun _ s11 ⟨_,H11,I11,_,e11⟩=>?_;subst e11;exact again I11 hm w10
  subst hs3;exact codeAny_compStart_list (loop _) (T.self _ 0 _ _ _ tn1 (loop _))

theorem Hx (hc:X.calm=true) (hcell:∀ y∈scope.names,y.2≠.cell) (hkind:scope.kind=.function) (hnames:∀ y∈scope.names,y.2=.local->scope.names.lookup y.1=some .local)
  (hfr:∀ y∈scope.names,y.2=.free->X.env.scope.names.lookup y.1=some .cell\/X.env.scope.names.lookup y.1=some .free)
  (hix:xH X.N N scope.names ix=true) (hi:PI X tg iter wi)
  (hb:∀ cl C fp s H E,PG (cS X scope N cl C fp s H E) tg g/\JC (cS X scope N cl C fp s H E) ifs tc/\PE (cS X scope N cl C fp s H E) elt te)
  (hs:∀ x,Ts iter X.env x=pure x:=by intro _; rfl):PE X (.ListComp elt [⟨tg,iter,ifs,0⟩] scope pos) (Mf wi g tc te ix):=by
 intro pins s σ H Q I h;rw [eval_ListComp];refine Ug (use:=none) rfl hs (o4 fun p hp hk=>I.ok.has p.1 (hfr p hp hk)) hkind hnames (eZ (hi pins s σ H _ I h) fun v s1 h1=>eZ h1 fun itv s2 h2=>?_);obtain⟨it,fp,tn,J,H2,e,I2,T,st2,f2,q⟩:=h2;subst e;refine uq (Q:=Q) (RR:=fun acc C=>compPost (model X.prog X.w) X.A X.xe none (EP X pins σ Q) acc C) hc hcell hkind hfr hix hb I2 T st2 f2 q ?_;intro D C H' s' m _ _ _ hn hI hq;exact⟨m,hn,fun h' sb=>⟨.ref D,H',hI h' sb,rfl,hq⟩⟩

theorem HE {i:Nat} {y:Str} {py spos:Pos} (hN:X.N.Nodup) (hi':X.N[i]?=some y) (hx:Loc X.env.scope y)
  (hc:X.calm=true) (hcell:∀ y∈scope.names,y.2≠.cell) (hkind:scope.kind=.function) (hnames:∀ y∈scope.names,y.2=.local->scope.names.lookup y.1=some .local)
  (hfr:∀ y∈scope.names,y.2=.free->X.env.scope.names.lookup y.1=some .cell\/X.env.scope.names.lookup y.1=some .free)
  (hix:xH X.N N scope.names ix=true) (hi:PI X tg iter wi)
  (hb:∀ cl C fp s H E,PG (cS X scope N cl C fp s H E) tg g/\JC (cS X scope N cl C fp s H E) ifs tc/\PE (cS X scope N cl C fp s H E) elt te)
  (hsw:swapsWith (.ListComp elt [⟨tg,iter,ifs,0⟩] scope pos) (some (.Name y py)) spos.line X.env=pure true:=by rfl)
  (hs:∀ x,Ts iter X.env x=pure x:=by intro _; rfl)
  (hf:X.fn y=true\/X.env.scope.names.lookup y=some .local:=by first | exact .inl rfl | exact .inr rfl | assumption) :
  PS X (.Assign [.Name y py] (.ListComp elt [⟨tg,iter,ifs,0⟩] scope pos) spos) (GH (Mf wi g tc te ix) (vy i)):=by
 intro pins s σ H D0 I h;rw [exec_Assign_Name_used _ _ _ _ hsw];refine Tp (Ue (Tp ?_));show Te _ X.A (do let _ <- comprehension (.ListComp elt [⟨tg,iter,ifs,0⟩] scope pos) scope X.env _ (newList []) false (eval iter X.env) (some (assign (.Name y py) X.env))) _ _ s;refine Tp (eZ (Ug (use:=some (assign (.Name y py) X.env)) (Q:=fun _ s'=>SP X pins D0 .next s') rfl hs (o4 fun p hp hk=>I.ok.has p.1 (hfr p hp hk)) hkind hnames
  (eZ (hi pins s σ H _ I h) fun v s1 h1=>eZ h1 fun itv s2 h2=>?_)) fun _ s' hq=>To (To hq))
 obtain⟨it,fp,tn,J,H2,e,I2,T,st2,f2,q⟩:=h2;subst e;refine uq (Q:=fun v H'=>vy i v σ H' D0.nx) (RR:=fun acc C=>compPost (model X.prog X.w) X.A X.xe (some (assign (.Name y py) X.env)) (fun _ s'=>SP X pins D0 .next s') acc C) hc hcell hkind hfr hix hb I2 T st2 f2 q ?_;intro D C H' s' m _ hC hfree hn hI hq;have I':Inv X pins σ H' s':=hI s'.heap (.refl ..);have nL:C≠X.env.locals:=Pb (OZ I2.lt hC);have nC:∀ x c,X.env.cells.lookup x=some c->c≠C:=fun x c e z=>by
  obtain⟨v,q⟩:=I2.cell x c e;exact absurd (OZ q.lt (by rw [z]; exact hC)) (O0 _)
 have nP:∀ p∈X.pn++pins,p.1≠C:=fun p hp z=>absurd (OZ (Si (I2.pin p hp).1) (by rw [z]; exact hC)) (O0 _);show Te _ X.A (assign (.Name y py) X.env (.ref D)) _ _ _;refine wpAny_assign_Name (wg I' hN hi' hx (v:=.ref D) rfl (fun s'' I'' ch=>?_) hf);obtain⟨a,sb,ha⟩:=ch;have hCa:C≠a:=by
  rcases ha with ha | ha
  ·rw [ha]; exact nL
  ·exact Ne.symm (nC y a ha)
 refine⟨m,hn.sameBut sb hCa,fun h' sb'=>⟨_,H',?_,hq⟩⟩;exact I''.turned (t':=s''.toks) (fun b o hb' e=>(sb'.2 b hb').trans e) hfree nL (.inr (O2 I2.sz hC)) nC nP
end
end L2
namespace TG
open PySem PySem.Spec L2

inductive D where
 | non | bl (b:Bool) | int (i:Int) | str (x:Str) | tup (xs:List D) | lst (xs:List D)
 | dct (ks vs:List D) | obj (c:Str) (fs:List Str) (vs:List D) | exc (c:Str) (fs:List Str) (vs:List D)

def bz:Key->D
 | .inl i=>.int i
 | .inr x=>.str x
def clsAt (K:RL) (c:Str) (C:S3):Prop:=R5 K S8 c=some (some (.ref C))
def MT (C a:S3) (dx:Option S3):(S3->Prop)->S5->Prop:=fun _ h=>∃ o,h.get? a=some o/\o.cls=.ref C/\o.dict=dx
mutual
def cY (K:RL) (H:Hp):D->V->Prop
 | .non,v=>v=.non
 | .bl b,v=>v=.bl b
 | .int i,v=>v=.int i
 | .str x,v=>v=.str x
 | .tup xs,v=>∃ a vs,v=.ref a/\H a=some (.tup vs)/\aZ K H xs vs
 | .lst xs,v=>∃ a vs,v=.ref a/\oZ K H a vs/\aZ K H xs vs
 | .dct ks ds,v=>∃ a vs,v=.ref a/\aZ K H ds vs/\((∃ kvs:List (Key×V),H a=some (.dK kvs)/\ks=kvs.map (fun p=>bz p.1)/\vs=kvs.map (·.2)) \/
   (∃ kvs:List (List Key×V),H a=some (.dT kvs)/\ks=kvs.map (fun p=>.tup (p.1.map bz))/\vs=kvs.map (·.2)) \/
   ∃ (kvs:List (List Key×V)) (o:Obj),H a=some (.frz o (.dT kvs))/\ks=.non::kvs.map (fun p=>.tup (p.1.map bz))/\vs=kvs.map (·.2))
 | .obj c fs ds,v=>∃ a vs,v=.ref a/\aZ K H ds vs/\fs.length=vs.length/\∃ C dx,clsAt K c C/\H a=some (.ins C dx (fs.zip vs))
 | .exc c fs ds,v=>∃ a vs,v=.ref a/\aZ K H ds vs/\fs.length=vs.length/\∃ C dx,clsAt K c C/\H a=some (.ext (MT C a dx))/\(fs=[]\/∃ d,dx=some d/\H d=some (.xd (fs.zip vs)))
def aZ (K:RL) (H:Hp):List D->List V->Prop
 | [],vs=>vs=[]
 | x::xs,vs=>∃ v r,vs=v::r/\cY K H x v/\aZ K H xs r
end

theorem B4 {K:RL} {H H':Hp} {a:S3} {xs:List V} (e:bn H H') (h:p8 K H a xs):p8 K H' a xs:=by
 rcases h with (h | ⟨o,h⟩) | h
 ·exact .inl (.inl (e _ _ h))
 ·exact .inl (.inr ⟨o,e _ _ h⟩)
 ·exact .inr h
theorem bY {K:RL} {H H':Hp} {a:S3} {xs:List V} (e:bn H H') (h:H a=some (.tup xs)):p8 K H' a xs:=p8.of (e _ _ h)
mutual
theorem cY.mono {K:RL} {H H':Hp} (e:bn H H'):∀ {d:D} {v:V},cY K H d v->cY K H' d v
 | .non,_,h=>by unfold cY at h ⊢; exact h
 | .bl _,_,h=>by unfold cY at h ⊢; exact h
 | .int _,_,h=>by unfold cY at h ⊢; exact h
 | .str _,_,h=>by unfold cY at h ⊢; exact h
 | .tup xs,_,h=>by
  unfold cY at h ⊢;obtain⟨a,vs,e1,h1,h2⟩:=h;exact⟨a,vs,e1,e _ _ h1,aZ.mono e h2⟩
 | .lst xs,_,h=>by
  unfold cY at h ⊢;obtain⟨a,vs,e1,h1,h2⟩:=h;exact⟨a,vs,e1,e.seq h1,aZ.mono e h2⟩
 | .dct _ ds,_,h=>by
  unfold cY at h ⊢;obtain⟨a,vs,e1,h1,h2⟩:=h;refine⟨a,vs,e1,aZ.mono e h1,?_⟩;rcases h2 with ⟨kvs,h2,h3⟩ | ⟨kvs,h2,h3⟩ | ⟨kvs,o,h2,h3⟩
  ·exact .inl ⟨kvs,e _ _ h2,h3⟩
  ·exact .inr (.inl ⟨kvs,e _ _ h2,h3⟩)
  ·exact .inr (.inr ⟨kvs,o,e _ _ h2,h3⟩)
 | .obj _ _ ds,_,h=>by
  unfold cY at h ⊢;obtain⟨a,vs,e1,h1,h2,C,dx,h3,h4⟩:=h;exact⟨a,vs,e1,aZ.mono e h1,h2,C,dx,h3,e _ _ h4⟩
 | .exc _ _ ds,_,h=>by
  unfold cY at h ⊢;obtain⟨a,vs,e1,h1,h2,C,dx,h3,h4,h5⟩:=h;exact⟨a,vs,e1,aZ.mono e h1,h2,C,dx,h3,e _ _ h4,h5.imp id fun ⟨d,q1,q2⟩=>⟨d,q1,e _ _ q2⟩⟩
theorem aZ.mono {K:RL} {H H':Hp} (e:bn H H'):∀ {ds:List D} {vs:List V},aZ K H ds vs->aZ K H' ds vs
 | [],_,h=>by unfold aZ at h ⊢; exact h
 | x::xs,_,h=>by
  unfold aZ at h ⊢;obtain⟨v,r,e1,h1,h2⟩:=h;exact⟨v,r,e1,cY.mono e h1,aZ.mono e h2⟩
end
section
variable {K:RL} {H:Hp}
theorem lM {v:V}:cY K H .non v↔v=.non:=by unfold cY; rfl
theorem lB {b:Bool} {v:V}:cY K H (.bl b) v↔v=.bl b:=by unfold cY; rfl
theorem fW {i:Int} {v:V}:cY K H (.int i) v↔v=.int i:=by unfold cY; rfl
theorem fU {x:Str} {v:V}:cY K H (.str x) v↔v=.str x:=by unfold cY; rfl
theorem cJ {xs:List D} {v:V}:cY K H (.tup xs) v↔∃ a vs,v=.ref a/\H a=some (.tup vs)/\aZ K H xs vs:=by unfold cY; rfl
theorem cI {xs:List D} {v:V}:cY K H (.lst xs) v↔∃ a vs,v=.ref a/\oZ K H a vs/\aZ K H xs vs:=by unfold cY; rfl
theorem L7 {ks ds : List D} {v : V} : cY K H (.dct ks ds) v ↔ ∃ a vs, v = .ref a /\ aZ K H ds vs /\ ((∃ kvs : List (Key × V), H a = some (.dK kvs) /\ ks = kvs.map (fun p => bz p.1) /\ vs = kvs.map (·.2)) \/
      (∃ kvs:List (List Key×V),H a=some (.dT kvs)/\ks=kvs.map (fun p=>.tup (p.1.map bz))/\vs=kvs.map (·.2)) \/
      ∃ (kvs:List (List Key×V)) (o:Obj),H a=some (.frz o (.dT kvs))/\ks=.non::kvs.map (fun p=>.tup (p.1.map bz))/\vs=kvs.map (·.2)):=by unfold cY; rfl
theorem Lz {c:Str} {fs:List Str} {ds:List D} {v:V}:cY K H (.obj c fs ds) v↔∃ a vs,v=.ref a/\aZ K H ds vs/\fs.length=vs.length/\∃ C dx,clsAt K c C/\H a=some (.ins C dx (fs.zip vs)):=by unfold cY; rfl
theorem cZ {vs:List V}:aZ K H [] vs↔vs=[]:=by unfold aZ; rfl
theorem bB {x:D} {xs:List D} {vs:List V}:aZ K H (x::xs) vs↔∃ v r,vs=v::r/\cY K H x v/\aZ K H xs r:=by conv=>lhs; unfold aZ
theorem aZ.length:∀ {ds:List D} {vs:List V},aZ K H ds vs->ds.length=vs.length
 | [],_,h=>by rw [cZ] at h; rw [h]; rfl
 | _::xs,_,h=>by
  rw [bB] at h;obtain⟨v,r,e,_,h⟩:=h;rw [e,Pp,Pp,aZ.length h]
theorem aZ.get:∀ {ds:List D} {vs:List V} {i:Nat} {d:D},aZ K H ds vs->ds[i]?=some d->∃ v,vs[i]?=some v/\cY K H d v
 | [],_,_,_,_,e=>by simp at e
 | x::xs,_,0,d,h,e=>by
  rw [bB] at h;obtain⟨v,r,rfl,h1,_⟩:=h;simp at e;subst e;exact⟨v,rfl,h1⟩
 | x::xs,_,i+1,d,h,e=>by
  rw [bB] at h;obtain⟨v,r,rfl,_,h2⟩:=h;obtain⟨w,e1,e2⟩:=aZ.get (i:=i) h2 (by simpa using e);exact⟨w,by simpa using e1,e2⟩
theorem aZ.append:∀ {ds es:List D} {vs ws:List V},aZ K H ds vs->aZ K H es ws->aZ K H (ds++es) (vs++ws)
 | [],_,_,_,h,h'=>by rw [cZ] at h; subst h; exact h'
 | x::xs,_,_,_,h,h'=>by
  rw [bB] at h;obtain⟨v,r,rfl,h1,h2⟩:=h;rw [Qb,bB];exact⟨v,_,rfl,h1,aZ.append h2 h'⟩
theorem aZ.take:∀ {ds:List D} {vs:List V} (n:Nat),aZ K H ds vs->aZ K H (ds.take n) (vs.take n)
 | _,_,0,_=>by rw [Qc,Qc,cZ]
 | [],_,_+1,h=>by rw [cZ] at h; subst h; rw [Qd,Qd,cZ]
 | x::xs,_,n+1,h=>by
  rw [bB] at h;obtain⟨v,r,rfl,h1,h2⟩:=h;rw [Qe,Qe,bB];exact⟨v,_,rfl,h1,aZ.take n h2⟩
theorem aZ.drop:∀ {ds:List D} {vs:List V} (n:Nat),aZ K H ds vs->aZ K H (ds.drop n) (vs.drop n)
 | _,_,0,h=>by rw [Qf,Qf]; exact h
 | [],_,_+1,h=>by rw [cZ] at h; subst h; rw [List.drop_nil,List.drop_nil,cZ]
 | x::xs,_,n+1,h=>by
  rw [bB] at h;obtain⟨v,r,rfl,h1,h2⟩:=h;rw [Qg,Qg];exact aZ.drop n h2
theorem aZ.snoc {ds:List D} {vs:List V} {d:D} {v:V} (h:aZ K H ds vs) (h':cY K H d v):aZ K H (ds++[d]) (vs++[v]) :=
 h.append (bB.mpr ⟨v,[],rfl,h',cZ.mpr rfl⟩)
theorem aZ.one {d:D} {vs:List V} (h:aZ K H [d] vs):∃ v,vs=[v]/\cY K H d v:=by
 rw [bB] at h;obtain⟨v,r,rfl,h1,h2⟩:=h;rw [cZ] at h2;subst h2;exact⟨v,rfl,h1⟩
theorem aZ.two {d e:D} {vs:List V} (h:aZ K H [d,e] vs):∃ v w,vs=[v,w]/\cY K H d v/\cY K H e w:=by
 rw [bB] at h;obtain⟨v,r,rfl,h1,h2⟩:=h;obtain⟨w,rfl,h3⟩:=h2.one;exact⟨v,w,rfl,h1,h3⟩
theorem wz:∀ ns:List Int,aZ K H (ns.map D.int) (ns.map V.int)
 | []=>cZ.mpr rfl
 | n::ns=>bB.mpr ⟨_,_,rfl,fW.mpr rfl,wz ns⟩
end

def hid (H:Hp) (O:List S3):Hp:=fun b=>if b∈O then none else H b
theorem aB (H:Hp) (O:List S3):bn (hid H O) H:=fun b o h=>by
 unfold hid at h;split at h
 ·cases h
 ·exact h
theorem cf {H H':Hp} {O:List S3} (e:bn H H'):bn (hid H O) (hid H' O):=fun b o h=>by
 unfold hid at h ⊢;by_cases hb:b∈O
 ·rw [if_pos hb] at h; cases h
 ·rw [if_neg hb] at h ⊢; exact e b o h
theorem iI {H:Hp} {O O':List S3} (s:∀ a∈O,a∈O'):bn (hid H O') (hid H O):=fun b o h=>by
 unfold hid at h ⊢;by_cases hb:b∈O'
 ·rw [if_pos hb] at h; cases h
 ·rw [if_neg hb] at h;rw [if_neg fun z=>hb (s b z)]; exact h
theorem Gc (H:Hp):hid H []=H:=by funext b; unfold hid; simp
theorem se {H:Hp} {O:List S3} {p:S3} {o:HO} (h:H p=none):bn (hid H O) (hid (upd H p o) O):=fun b u q=>by
 unfold hid at q ⊢;by_cases hb:b∈O
 ·rw [if_pos hb] at q; cases q
 ·rw [if_neg hb] at q ⊢;rw [aE (bc q h)]; exact q
theorem bF {H:Hp} {p:S3} (h:H p=none) (o:HO):bn H (upd H p o):=fun b u q=>by rw [aE (bc q h)]; exact q
theorem jV {H:Hp} {O:List S3} {p:S3} (h:p∉O):hid H O p=H p:=by unfold hid; rw [if_neg h]
theorem iw {H:Hp} {O:List S3} {p:S3} {o:HO} (h:p∈O):bn (hid H O) (hid (upd H p o) O):=fun b u q=>by
 unfold hid at q ⊢;by_cases hb:b∈O
 ·rw [if_pos hb] at q; cases q
 ·rw [if_neg hb] at q ⊢;rw [aE (fun z=>hb (by rw [z]; exact h))]; exact q

inductive S where
 | val (d:D) | own (d:D) | nest (d:D)
abbrev aq:=List (Option S)
def tx:HO->Prop
 | .lst _=>True
 | .dK _=>True
 | .dT _=>True
 | _=>False
class aX where
 tab:Hp->Prop
 same:∀ {H H':Hp},tab H->bn H H'->tab H'
 own:∀ {H:Hp} {p:S3} {o o':HO},tab H->H p=some o->tx o->tab (upd H p o')
variable [aX]
def eL (H:Hp) (O:List S3):Prop:=aX.tab H/\∀ a∈O,∃ o,H a=some o/\tx o
theorem eL.not {H:Hp} {O:List S3} (h:eL H O) {p:S3} (n:H p=none):p∉O:=fun z=>by
 obtain⟨vs,e,_⟩:=h.2 p z;rw [n] at e; cases e
theorem eL.same {H H':Hp} {O:List S3} (h:eL H O) (e:bn H H'):eL H' O:=⟨aX.same h.1 e,fun a ha=>let ⟨vs,q,m⟩:=h.2 a ha; ⟨vs,e _ _ q,m⟩⟩
theorem eL.upd {H:Hp} {O:List S3} {p:S3} {o:HO} (h:eL H O) (hp:p∈O) (m:tx o):eL (L2.upd H p o) O:=⟨let ⟨_,q,r⟩:=h.2 p hp; aX.own h.1 q r,fun a ha=>by
 by_cases z:a=p
 ·rw [z]; exact⟨o,aQ,m⟩
 ·obtain⟨u,q,r⟩:=h.2 a ha;exact⟨u,by rw [aE z]; exact q,r⟩⟩
theorem eL.cons {H:Hp} {O:List S3} {p:S3} {o:HO} (h:eL H O) (hp:H p=some o) (m:tx o):eL H (p::O):=⟨h.1,fun a ha=>by
 rcases List.mem_cons.mp ha with z | z
 ·rw [z]; exact⟨o,hp,m⟩
 ·exact h.2 a z⟩
def dW (K:RL) (H:Hp) (O:List S3) (a:S3) (d:D):Prop:=∃ o vs,H a=some o/\match d with
 | .lst xs=>o=.lst vs/\aZ K (hid H O) xs vs
 | .dct ks ds=>aZ K (hid H O) ds vs/\((∃ kvs:List (Key×V),o=.dK kvs/\ks=kvs.map (fun p=>bz p.1)/\vs=kvs.map (·.2)) \/
   ∃ kvs:List (List Key×V),o=.dT kvs/\ks=kvs.map (fun p=>.tup (p.1.map bz))/\vs=kvs.map (·.2))
 | _=>False
theorem dW.mono {K:RL} {H H':Hp} {O O':List S3} {a:S3} {d:D} (h:dW K H O a d) (e:H a=H' a) (s:bn (hid H O) (hid H' O')):dW K H' O' a d:=by
 obtain⟨o,vs,h1,h2⟩:=h;refine⟨o,vs,by rw [<- e]; exact h1,?_⟩;cases d with
 | lst xs=>exact⟨h2.1,h2.2.mono s⟩
 | dct ks ds=>exact⟨h2.1.mono s,h2.2⟩
 | _=>exact h2
theorem dW.some {K:RL} {H:Hp} {O:List S3} {a:S3} {d:D} (h:dW K H O a d):∃ o,H a=some o:=let ⟨o,_,e,_⟩:=h; ⟨o,e⟩
theorem dW.den {K:RL} {H:Hp} {O O':List S3} {a:S3} {d:D} (h:dW K H O a d) (s:bn (hid H O) (hid H O')) (ha:a∉O'):cY K (hid H O') d (.ref a):=by
 obtain⟨o,vs,h1,h2⟩:=h;have h1':hid H O' a=Option.some o:=by rw [jV ha]; exact h1
 cases d with
 | lst xs =>
  obtain⟨e,g⟩:=h2;subst e;exact cI.mpr ⟨a,vs,rfl,oZ.of h1',g.mono s⟩
 | dct ks ds =>
  obtain⟨g,q⟩:=h2;refine L7.mpr ⟨a,vs,rfl,g.mono s,?_⟩;rcases q with ⟨kvs,e,q⟩ | ⟨kvs,e,q⟩
  ·subst e; exact .inl ⟨kvs,h1',q⟩
  ·subst e; exact .inr (.inl ⟨kvs,h1',q⟩)
 | _=>exact h2.elim
structure eG (K:RL) (O:List S3) (H:Hp) (ρ:aq) (σ:St):Prop where
 val:∀ (i:Nat) d,ρ[i]?=some (some (.val d))->∃ v,σ[i]?=some (some v)/\cY K (hid H O) d v
 own:∀ (i:Nat) d,ρ[i]?=some (some (.own d))->∃ a,σ[i]?=some (some (.ref a))/\a∈O/\dW K H O a d
 one:∀ (i j:Nat) xs ys a,ρ[i]?=some (some (.own xs))->ρ[j]?=some (some (.own ys))->σ[i]?=some (some (.ref a))->σ[j]?=some (some (.ref a))->i=j
 all:eL H O
theorem rQ {H H':Hp} (e:bn H H') {a:S3} {o:HO} (h:H a=some o):H a=H' a:=by rw [h,e _ _ h]
theorem eG.same {K:RL} {O:List S3} {H H':Hp} {ρ:aq} {σ:St} (h:eG K O H ρ σ) (e:bn H H'):eG K O H' ρ σ :=
  ⟨fun i d q=>let ⟨v,a,b⟩:=h.val i d q; ⟨v,a,b.mono (cf e)⟩,
   fun i xs q=>let ⟨a,q1,q2,q3⟩:=h.own i xs q; ⟨a,q1,q2,q3.mono (let ⟨_,z⟩:=q3.some; rQ e z) (cf e)⟩,h.one,h.all.same e⟩

structure Ex where
 c:Str
 fs:List Str
 vs:List D
abbrev R (α:Type):=Except (Option Ex) α
abbrev un {α:Type}:R α:=.error none
def rO {α:Type}:Option α->R α
 | some a=>.ok a
 | none=>.error none
def Lq (K:RL) (Hd:Hp) (x:Ex) (C:S3) (dx:Option S3):Prop:=clsAt K x.c C/\∃ ws,aZ K Hd x.vs ws/\x.fs.length=ws.length/\(x.fs=[]\/∃ d,dx=some d/\Hd d=some (.xd (x.fs.zip ws)))
theorem Lq.mono {K:RL} {H H':Hp} {x:Ex} {C:S3} {dx:Option S3} (h:Lq K H x C dx) (e:bn H H'):Lq K H' x C dx:=by
 obtain⟨h1,ws,h2,h3,h4⟩:=h;exact⟨h1,ws,h2.mono e,h3,h4.imp id fun ⟨d,q1,q2⟩=>⟨d,q1,e _ _ q2⟩⟩
end TG
namespace TG
open PySem PySem.Spec L2
variable [aX]
open PyProof.Rows (AllBare)
theorem Ia {P:S0} {w:SZ} {H:Hp} {h:S5} {a:S3} {o:HO} (x:cK P w H h a o):∃ u,h.get? a=some u:=by
 cases o with
 | lst xs=>obtain⟨_,_,_,_,e⟩:=x; exact⟨_,e⟩
 | tup xs=>obtain⟨_,_,_,o,e,_⟩:=x; exact⟨_,e⟩
 | dK kvs=>obtain⟨_,_,_,_,o,_,_,e,_⟩:=x; exact⟨_,e⟩
 | dT kvs=>obtain⟨_,_,_,_,o,_,_,e,_⟩:=x; exact⟨_,e⟩
 | set S n=>obtain⟨o,_,_,_,e,_⟩:=x; exact⟨_,e⟩
 | ins C dx fs=>obtain⟨_,_,_,e,_⟩:=x; exact⟨_,e⟩
 | own y=>exact x
 | xd fs=>obtain⟨_,⟨_,_,_,e,_⟩,_⟩:=x; exact⟨_,e⟩
 | rng lo hi=>obtain⟨_,_,_,e⟩:=x; exact⟨_,e⟩
 | frz ob u=>obtain⟨e,_⟩:=x; exact⟨_,e⟩
 | tbl ps=>exact⟨_,(show h.get? a=some _ from x)⟩
 | met f y=>exact⟨_,(show h.get? a=some _ from x)⟩
 | ext φ=>obtain⟨_,e,_⟩:=x; exact e
def sC (X:Cx) (H:Hp) (b:S3):Prop:=((∃ o,X.s₀.heap.get? b=some o)/\b∉X.ex)\/H b≠none\/(∃ o,(b,o)∈X.pn)\/∃ x,X.env.cells.lookup x=some b
def OG (B:S5) (e:S3) (cls a0:SY) (h:S5):Prop:=h.TracedW B e cls a0\/∃ oe vs,h.get? e=some oe/\oe.cls=cls/\oe.data=.fields vs/\vs[1]?=some .none/\vs[0]?=some a0
def Ke (X:Cx) (H:Hp) (s:Tc) (e C:S3):Prop:=∃ B a0,B.StaysIn s.heap/\B.get? e=none/\s.heap.FunFrames B X.stack/\OG B e (.ref C) a0 s.heap/\∀ b o,s.heap.get? b=some o->sC X H b->b∉frs X.stack->B.get? b=some o
def OV (X:Cx) (H:Hp) (O:List S3) (s:Tc) (u:SY) (x:Ex):Prop:=∃ e C dx,u=.ref e/\Lq X.K (hid H O) x C dx/\Ke X H s e C
def oC (P:S0) (w:SZ):An:=fun outer H s E u s'=>∃ e C dx H' B a0,u=.ref e/\s'.os=s.os/\AllBare s'.gens/\Un (frs outer) [] H H' s.heap s'.heap/\pA P w H' s'.heap/\Heap.FlyingW B outer e (.ref C) a0 s'.heap /\
 (∀ b o,s'.heap.get? b=some o->((∃ o',s.heap.get? b=some o')\/H' b≠none)->b∉frs outer->B.get? b=some o)/\E (.ref C) dx H'
def NC (K:RL) (H:Hp) (O:List S3) (x:Ex) (E:XK):Prop:=∀ C dx H',bn H H'->Lq K (hid H' O) x C dx->E (.ref C) dx H'
def J0 (X:Cx) (σ:St) (O:List S3) (H:Hp) (x:Ex):Prop:=∀ pins s u H',Inv X pins σ H' s->bn H H'->OV X H' O s u x->X.xe u s
theorem J0.mono {X:Cx} {σ:St} {O:List S3} {H H':Hp} {x:Ex} (h:J0 X σ O H x) (s:bn H H'):J0 X σ O H' x:=fun pins st u H2 I s2 f=>h pins st u H2 I (s.trans s2) f
def Bm (X:Cx) (O:List S3) (H:Hp) (x:Ex):XK:=fun u dx H'=>∃ C,u=.ref C/\bn H H'/\Lq X.K (hid H' O) x C dx
def mG (CX:An) (X:Cx) (σ:St) (E:XK):Prop:=∀ (pins:List (S3×Obj)) (H:Hp) (s:Tc) (e:SY) (s':Tc),Inv X pins σ H s->CX X.stack H s E e s'->X.xe e s'
theorem Bz {X:Cx} {σ:St} {O:List S3} {H:Hp} {x:Ex} (h:J0 X σ O H x):mG (oC X.prog X.w) X σ (Bm X O H x):=by
 rintro pins H1 s u s' I ⟨e,C,dx,H',B,a0,rfl,os,bare,un,hok,⟨f1,f2,f3,f4⟩,kp,C',eC,sm,hd⟩;cases eC;have I':Inv X pins σ H' s':=I.call' os un hok bare (ch:=[]) fun b z=>absurd z (by simp);refine h pins s' _ H' I' sm ⟨e,C,dx,rfl,hd,B,a0,f1,f2,f3,.inl f4,fun b o eb hb nf=>kp b o eb ?_ nf⟩;rcases hb with ⟨⟨o',hb⟩,nx⟩ | hb | ⟨o',hb⟩ | ⟨y,hb⟩
 ·exact .inl (I.base.there b o' hb nx)
 ·exact .inr hb
 ·exact .inl ⟨_,(I.pin _ (O8 _ hb)).1⟩
 ·obtain⟨v,o,q,_⟩:=I.cell y b hb;exact .inl ⟨o,q⟩
theorem Bc {X:Cx} {σ:St}:mG (oC X.prog X.w) X σ E0:=fun _ _ _ _ _ _ ⟨_,_,_,_,_,_,_,_,_,_,_,_,_,z⟩=>z.elim
theorem yv {X:Cx} {O:List S3} {H:Hp} {x:Ex}:NC X.K H O x (Bm X O H x):=fun C dx H' s e=>⟨C,rfl,s,e⟩
section
variable {X:Cx} {pins:List (S3×Obj)} {σ:St} {H:Hp} {s:Tc} {h':S5}
theorem Ht (I:Inv X pins σ H s) (k:∀ b o,s.heap.get? b=some o->sC X H b->b∉frs X.stack->h'.get? b=some o):pA X.prog X.w H h':=fun a ob ea =>
 (I.hok a ob ea).stay (fun b u hb q=>by
  have hn:H b≠none:=by
   rcases hb with e | e
   ·rw [e,ea]; intro z; cases z
   ·rw [e]; intro z; cases z
  exact k b u q (.inr (.inl hn)) fun hf=>hn (I.stkFree b hf)) (fun _ q=>q) fun _ _ q=>q
theorem wm (I:Inv X pins σ H s) (us:s.heap.UpToSlots h') {b:S3} {o:Obj} (hb:b∈frs X.stack) (e:s.heap.get? b=some o):∃ sl,h'.get? b=some { o with slots:=sl }:=by
 obtain⟨_,o',e',nf⟩:=I.stack.mem hb;rw [e] at e'; cases e';exact us b o e nf
theorem JI (I:Inv X pins σ H s) (hx:X.ex=[]) (hst:X.stack=X.env::X.outer) (hf:X.env.frame=some X.env.locals) (us:s.heap.UpToSlots h') (k:∀ b o,s.heap.get? b=some o->sC X H b->b∉frs X.stack->h'.get? b=some o) :
  Un (frs X.outer) [] X.H₀ H X.s₀.heap h':=by
 have U:=I.base;rw [hx] at U;have fr:frs X.stack=X.env.locals::frs X.outer:=by rw [hst]; show List.filterMap _ (_::_)=_; rw [O5,hf]; rfl
 have nl:∀ b o,X.s₀.heap.get? b=some o->b≠X.env.locals:=fun b o q z=>by
  have h1:=Si q;have h2:=I.ok.above;rw [z] at h1; exact O0 _ (OZ h1 h2)
 have nfr:∀ b o,X.s₀.heap.get? b=some o->b∉frs X.outer->b∉frs X.stack:=fun b o q nb z=>by
  rw [fr] at z;rcases List.mem_cons.mp z with z | z
  ·exact nl b o q z
  ·exact nb z
 refine⟨fun b o q n nb _=>k b o (U.keep b o q n nb (by simp)) (.inl ⟨⟨o,q⟩,by rw [hx]; simp⟩) (nfr b o q nb),fun b o q n hb _=>?_,fun b o q n _=>U.free b o q n (by simp),fun b o q _=>?_,U.tups,U.frzs,U.tbls⟩
 ·obtain⟨sl,e⟩:=U.slot b o q n hb (by simp);obtain⟨sl',e'⟩:=wm I us (by rw [fr]; exact O7 _ hb) e;exact⟨sl',e'⟩
 ·obtain⟨o1,e1⟩:=U.there b o q (by simp);by_cases hb:b∈frs X.stack
  ·obtain⟨sl,e⟩:=wm I us hb e1;exact⟨_,e⟩
  ·exact⟨o1,k b o1 e1 (.inl ⟨⟨o,q⟩,by rw [hx]; simp⟩) hb⟩
end
theorem D8 {P:S0} {w:SZ} {K:RL} {mg:Str->Option SY} {base:S5} {N:List Str} {qual:Str} {scope:Td} {f:S3} {cd:SY} {A:Tb} {outer:List Env} {s:Tc} {H:Hp} {E:XK} {σ:St} {O O':List S3} {H':Hp} {x:Ex}
  (hx:NC K H O x E) (sm:bn H H') (hs:∀ a∈O,a∈O'):J0 (j5 (oC P w) P w K mg base N qual scope f cd A outer s H E) σ O' H' x:=by
 rintro pins s1 u H1 I s2 ⟨e,C,dx,rfl,hd,B,a0,b1,b2,b3,b4,b5⟩;have fin:∀ h',Heap.FlyingW B outer e (.ref C) a0 h'->s1.heap.UpToSlots h'->oC P w outer H s E (.ref e) { s1 with heap:=h' }:=fun h' fl us=>by
  have k:∀ b o,s1.heap.get? b=some o->sC (j5 (oC P w) P w K mg base N qual scope f cd A outer s H E) H1 b->b∉frs (j5 (oC P w) P w K mg base N qual scope f cd A outer s H E).stack->h'.get? b=some o:=fun b o q kb nf=>fl.1 b o (b5 b o q kb nf);have un:=JI I rfl rfl rfl us k;have hok:=Ht I k;refine⟨e,C,dx,H1,B,a0,rfl,I.os,I.bare,un,hok,fl,fun b o q hb nf=>?_,hx C dx H1 (sm.trans s2) (hd.mono (iI hs))⟩;have nf2:b∉frs (j5 (oC P w) P w K mg base N qual scope f cd A outer s H E).stack:=fun z=>by
   rcases List.mem_cons.mp (show b∈s.heap.objs.size::frs outer from z) with z | z
   ·rcases hb with hb | hb
    ·obtain⟨o',hb⟩:=hb
     have:=Si hb
     rw [z] at this; exact O0 _ this
    ·rw [z] at hb; exact hb I.free
   ·exact nf z
  have kb:sC (j5 (oC P w) P w K mg base N qual scope f cd A outer s H E) H1 b:=hb.elim (fun z=>.inl ⟨z,fun y=>nomatch y⟩) fun z=>.inr (.inl z);obtain⟨o1,e1⟩:∃ o1,s1.heap.get? b=some o1:=by
   rcases hb with ⟨o',hb⟩ | hb
   ·exact I.base.there b o' hb (fun z=>nomatch z)
   ·cases q0:H1 b with
    | none=>exact absurd q0 hb
    | some ob=>exact Ia (I.hok b ob q0)
  have:=k b o1 e1 kb nf2
  rw [q] at this; cases this;exact b5 b _ e1 kb nf2
 show Te _ _ (leaving (SA qual scope s.heap.objs.size f cd) (.ref e)) _ _ s1;rcases b4 with b4 | ⟨oe,vs,c1,c2,c3,c4,c5⟩
 ·exact wpAny_leaves_onW I.ok.frames rfl ⟨b1,b2,b3,b4⟩ fin
 ·refine wpAny_leaving_firstW I.ok.frames b3 rfl c1 b1 b2 c3 c4 c5 fun h' hL=>?_;obtain⟨k1,⟨_,_,k2⟩,k3,k4⟩:=hL;exact fin h' ⟨k1,b2,k2,c2 ▸ k3⟩ k4
end TG
namespace TG
open PySem PySem.Spec L2
variable [aX]

def jw (X:Cx) (σ:St) (O:List S3) (H:Hp) {α:Type} (r:R α) (Q:α->Prop):Prop:=match r with
 | .ok a=>Q a
 | .error (some x)=>J0 X σ O H x
 | .error none=>False
section
variable {X:Cx} {σ:St} {O:List S3} {H H':Hp} {α β:Type}
theorem jw.bind {r:R α} {G:α->R β} {Q:β->Prop} (h:jw X σ O H (r.bind G) Q):jw X σ O H r fun a=>jw X σ O H (G a) Q:=by
 match r,h with
 | .ok a,h=>exact h
 | .error (some x),h=>exact h
 | .error none,h=>exact h
theorem jw.imp {r:R α} {Q Q':α->Prop} (h:jw X σ O H r Q) (f:∀ a,Q a->Q' a):jw X σ O H r Q':=by
 match r,h with
 | .ok a,h=>exact f a h
 | .error (some x),h=>exact h
 | .error none,h=>exact h
theorem jw.mono {r:R α} {Q:α->Prop} (h:jw X σ O H r Q) (s:bn H H'):jw X σ O H' r Q:=by
 match r,h with
 | .ok a,h=>exact h
 | .error (some x),h=>exact J0.mono h s
 | .error none,h=>exact h
theorem jw.rO {o:Option α} {Q:α->Prop} (h:jw X σ O H (rO o) Q):∃ a,o=some a/\Q a:=by
 match o,h with
 | some a,h=>exact⟨a,rfl,h⟩
 | none,h=>exact h.elim
end
abbrev FX:=aq->R D
def tF (X:Cx) (F:FX):TE:=fun σ H Q=>∃ O ρ,eG X.K O H ρ σ/\jw X σ O H (F ρ) fun d=>∀ v H',bn H H'->cY X.K (hid H' O) d v->Q v H'
def L6 (X:Cx) (F:aq->R Bool):TT:=fun σ H Q=>∃ O ρ,eG X.K O H ρ σ/\jw X σ O H (F ρ) fun b=>∀ H',bn H H'->Q b H'
def LZ (X:Cx) (F:aq->R (List D)):TA:=fun σ H Q=>∃ O ρ,eG X.K O H ρ σ/\jw X σ O H (F ρ) fun ds=>∀ vs H',bn H H'->aZ X.K (hid H' O) ds vs->Q vs H'
def FE (X:Cx) (e:Tf) (F:FX):Prop:=PE X e (tF X F)
def FT (X:Cx) (e:Tf) (F:aq->R Bool):Prop:=PT X e (L6 X F)
def FW (X:Cx) (e:Tf) (F:aq->R Bool):Prop:=PW X e (L6 X F)
def FA (X:Cx) (es:List Tf) (F:aq->R (List D)):Prop:=PA X es (LZ X F)

theorem PE.weak {X:Cx} {e:Tf} {t t':TE} (h:PE X e t) (w:∀ σ H Q,t' σ H Q->t σ H Q):PE X e t':=fun pins s σ H Q I q=>h pins s σ H Q I (w σ H Q q)
theorem PT.weak {X:Cx} {e:Tf} {t t':TT} (h:PT X e t) (w:∀ σ H Q,t' σ H Q->t σ H Q):PT X e t':=fun pins s σ H Q I q=>h pins s σ H Q I (w σ H Q q)
theorem PW.weak {X:Cx} {e:Tf} {t t':TT} (h:PW X e t) (w:∀ σ H Q,t' σ H Q->t σ H Q):PW X e t':=fun whole pins s σ H Q I q=>h whole pins s σ H Q I (w σ H Q q)
theorem PA.weak {X:Cx} {es:List Tf} {t t':TA} (h:PA X es t) (w:∀ σ H Q,t' σ H Q->t σ H Q):PA X es t':=fun pos pins s σ H Q I q=>h pos pins s σ H Q I (w σ H Q q)
theorem PS.weak {X:Cx} {st:Th} {t t':TS} (h:PS X st t) (w:∀ D σ H,t' D σ H->t D σ H):PS X st t':=fun pins s σ H Q I q=>h pins s σ H Q I (w Q σ H q)
theorem x6.weak {X:Cx} {st:List Th} {t t':TS} (h:x6 X st t) (w:∀ D σ H,t' D σ H->t D σ H):x6 X st t':=fun pins s σ H Q I q=>h pins s σ H Q I (w Q σ H q)

def tG (ρ:aq) (i:Nat):R D:=match ρ[i]? with
 | some (some (.val d))=>.ok d
 | _=>un
theorem GQ {ρ:aq} {i:Nat} {d:D} (h:tG ρ i=.ok d):ρ[i]?=some (some (.val d)):=by
 unfold tG at h;split at h
 ·rename_i e; cases h; exact e
 ·cases h
def ah (i:Nat):FX:=fun ρ=>tG ρ i
def fC (d:D):FX:=fun _=>.ok d
section
variable {X:Cx}
theorem vk {σ:St} {O:List S3} {H:Hp} {ρ:aq} {i:Nat} {Q:D->Prop} (h:jw X σ O H (tG ρ i) Q):∃ d,ρ[i]?=some (some (.val d))/\Q d:=by
 cases e:tG ρ i with
 | ok d=>rw [e] at h; exact⟨d,GQ e,h⟩
 | error z =>
  rw [e] at h;cases z with
  | none=>exact h.elim
  | some x =>
   exfalso;unfold tG at e;split at e
   ·cases e
   ·have:=Except.error.inj e; cases this
theorem MR {i:Nat} {x:Str} {pos:Pos} (h:PE X (.Name x pos) (ux i)):FE X (.Name x pos) (ah i) :=
 PE.weak h fun σ H Q ⟨O,ρ,E,hF⟩=>by
  obtain⟨d,e,q⟩:=vk hF;obtain⟨v,e,dv⟩:=E.val i d e;exact⟨v,e,q v H (bn.refl H) dv⟩
theorem pj {e:Tf} {d:D} {v:V} (h:PE X e (tC v)) (hd:∀ K H,cY K H d v):FE X e (fC d) :=
 PE.weak h fun σ H Q ⟨O,ρ,E,q⟩=>q v H (bn.refl H) (hd _ _)
theorem M5 {i j pos}:FE X (.Constant (.int i) j pos) (fC (.int i)):=pj Jw fun _ _=>fW.mpr rfl
theorem Ox {b j pos}:FE X (.Constant (.bool b) j pos) (fC (.bl b)):=pj Kg fun _ _=>lB.mpr rfl
theorem NF {x j pos}:FE X (.Constant (.str x) j pos) (fC (.str x)):=pj IX fun _ _=>fU.mpr rfl

def noStar:Tf->Bool
 | .Starred _ _=>false
 | _=>true
theorem dH {e:Tf} {es:List Tf} {env:Env} (h:noStar e=true):Tg (e::es) env=(false,eval e env)::Tg es env:=by
 cases e <;> first | rfl | cases h
theorem gB {pos:Pos} {env:Env}:∀ {es:List Tf},es.all noStar=true->(backTo pos (Tg es env)).any (·.1)=false
 | [],_=>rfl
 | e::es,h=>by
  rw [Qh,PP] at h;rw [dH h.1];exact gB h.2
def au:aq->R (List D):=fun _=>.ok []
def af (f:FX) (g:aq->R (List D)):aq->R (List D):=fun ρ=>(f ρ).bind fun x=>(g ρ).bind fun xs=>.ok (x::xs)
theorem Jd:FA X [] au:=PA.weak qf fun σ H Q ⟨O,ρ,E,q⟩=>q [] H (bn.refl H) (cZ.mpr rfl)
theorem bind_some {α β:Type} {o:Option α} {f:α->Option β} {b:β} (h:o.bind f=some b):∃ a,o=some a/\f a=some b:=by
 cases o with
 | none=>cases h
 | some a=>exact⟨a,rfl,h⟩
theorem rR {ε α β:Type} {o:Except ε α} {f:α->Except ε β} {b:β} (h:o.bind f=.ok b):∃ a,o=.ok a/\f a=.ok b:=by
 cases o with
 | error _=>cases h
 | ok a=>exact⟨a,rfl,h⟩
theorem Ge {e:Tf} {es:List Tf} {f:FX} {g:aq->R (List D)} (he:FE X e f) (hs:FA X es g) (hns:noStar e=true:=by rfl):FA X (e::es) (af f g) :=
 PA.weak (lG he hs (dH hns)) fun σ H Q ⟨O,ρ,E,h⟩ =>
  ⟨O,ρ,E,(jw.bind h).imp fun x h v H1 s1 d1=>⟨O,ρ,E.same s1,((jw.bind h).mono s1).imp fun xs q vs H2 s2 d2=>q (v::vs) H2 (s1.trans s2) (bB.mpr ⟨v,vs,rfl,d1.mono (cf s2),d2⟩)⟩⟩
def small (n:Nat):Bool:=decide (n<=100000)
theorem eN {n:Nat} (h:small n=true):n<=S6:=O2 (of_decide_eq_true h) (by decide)
theorem dM {n:Nat} (h:n<=100000):small n=true:=decide_eq_true h
def vj (xs:List D):Option D:=if small xs.length then some (.tup xs) else none
def pI (xs:List D):Option D:=if small xs.length then some (.lst xs) else none
def cy (g:aq->R (List D)):FX:=fun ρ=>(g ρ).bind fun xs=>rO (vj xs)
def kU (g:aq->R (List D)):FX:=fun ρ=>(g ρ).bind fun xs=>rO (pI xs)
theorem bH {α:Type} {c:Bool} {a b:α} (h:(if c then some a else none)=some b):c=true/\a=b:=by
 cases c with
 | true=>exact⟨rfl,Option.some.inj h⟩
 | false=>cases h
theorem e8 {K:RL} {H:Hp} {O:List S3} {p:S3} {ds:List D} {vs:List V} (hO:eL H O) (hp:H p=none) (d:aZ K (hid H O) ds vs):cY K (hid (upd H p (.tup vs)) O) (.tup ds) (.ref p) :=
 cJ.mpr ⟨p,vs,rfl,by rw [jV (hO.not hp),aQ],d.mono (se hp)⟩
theorem dU {K:RL} {H:Hp} {O:List S3} {p:S3} {ds:List D} {vs:List V} (hO:eL H O) (hp:H p=none) (d:aZ K (hid H O) ds vs):cY K (hid (upd H p (.lst vs)) O) (.lst ds) (.ref p) :=
 cI.mpr ⟨p,vs,rfl,oZ.of (by rw [jV (hO.not hp),aQ]),d.mono (se hp)⟩
theorem Nh {es:List Tf} {g:aq->R (List D)} {k pos} (h:FA X es g):FE X (.Tuple es k pos) (cy g) :=
 PE.weak (IB h) fun σ H Q ⟨O,ρ,E,hF⟩=>⟨O,ρ,E,(jw.bind hF).imp fun xs hF vs H1 s1 d1=>by
  obtain⟨d,e,q⟩:=jw.rO hF;obtain⟨hz,e⟩:=bH e;subst e;refine⟨by rw [<- d1.length]; exact eN hz,fun p hp=>?_⟩;exact q _ _ (s1.trans (bF hp _)) (e8 (E.all.same s1) hp d1)⟩
theorem NI {es:List Tf} {g:aq->R (List D)} {pos} (h:FA X es g):FE X (.List es pos) (kU g) :=
 PE.weak (Az h) fun σ H Q ⟨O,ρ,E,hF⟩=>⟨O,ρ,E,(jw.bind hF).imp fun xs hF vs H1 s1 d1=>by
  obtain⟨d,e,q⟩:=jw.rO hF;obtain⟨hz,e⟩:=bH e;subst e;refine⟨by rw [<- d1.length]; exact eN hz,fun p hp=>?_⟩;exact q _ _ (s1.trans (bF hp _)) (dU (E.all.same s1) hp d1)⟩

def Gu (K:RL) (r:V->Hp->VK->Prop) (g:D->Option D):Prop :=
 ∀ (a d:D) (x:V) (O:List S3) (H:Hp) (Q:VK),eL H O->g a=some d->cY K (hid H O) a x->(∀ v H',bn H H'->cY K (hid H' O) d v->Q v H')->r x H Q
def f1 (g:D->Option D) (f:FX):FX:=fun ρ=>(f ρ).bind fun a=>rO (g a)
def eQ (K:RL) (r:R2) (g:D->D->Option D):Prop :=
 ∀ (a b d:D) (x y:V) (O:List S3) (H:Hp) (Q:VK),eL H O->g a b=some d->cY K (hid H O) a x->cY K (hid H O) b y->(∀ v H',bn H H'->cY K (hid H' O) d v->Q v H')->r x y H Q
def f2 (g:D->D->Option D) (f1 f2:FX):FX:=fun ρ=>(f1 ρ).bind fun a=>(f2 ρ).bind fun b=>rO (g a b)
theorem xf {r:R2} {g:D->D->Option D} {fa fb:FX} (s:eQ X.K r g):∀ σ H Q,tF X (f2 g fa fb) σ H Q->KA r (tF X fa) (tF X fb) σ H Q:=fun σ H Q ⟨O,ρ,E,hF⟩ =>
 ⟨O,ρ,E,(jw.bind hF).imp fun a hF x H1 s1 d1=>⟨O,ρ,E.same s1,((jw.bind hF).mono s1).imp fun b hF y H2 s2 d2=>by
  obtain⟨d,e,q⟩:=jw.rO hF;exact s a b d x y O H2 Q (E.all.same (s1.trans s2)) e (d1.mono (cf s2)) d2 fun v H3 s3 d3=>q v H3 ((s1.trans s2).trans s3) d3⟩⟩
theorem Mw {a b:Tf} {op:Operator} {r:R2} {g:D->D->Option D} {fa fb:FX} {pos:Pos} (ho:mr X (Tu op) r) (s:eQ X.K r g) (ha:FE X a fa) (hb:FE X b fb):FE X (.BinOp a op b pos) (f2 g fa fb) :=
 PE.weak (Li ho ha hb) (xf s)
theorem Np {a b:Tf} {op:CmpOp} {r:R2} {g:D->D->Option D} {fa fb:FX} {pos:Pos} (ho:mr X (Tv op) r) (s:eQ X.K r g) (ha:FE X a fa) (hb:FE X b fb) (hm:Tw op b=false):FE X (.Compare a [op] [b] pos) (f2 g fa fb) :=
 PE.weak (GB ho ha hb hm) (xf s)
def NE:D->Option Bool
 | .bl b=>some b
 | _=>none
def fB (f:FX):aq->R Bool:=fun ρ=>(f ρ).bind fun d=>rO (NE d)
theorem EK {t:TE} {f:FX} (h:∀ σ H Q,tF X f σ H Q->t σ H Q):∀ σ H Q,L6 X (fB f) σ H Q->HF t σ H Q:=fun σ H Q ⟨O,ρ,E,hF⟩ =>
 h σ H _ ⟨O,ρ,E,(jw.bind hF).imp fun d hF v H1 s1 d1=>by
  obtain⟨b,e,q⟩:=jw.rO hF;cases d with
  | bl b' =>
   cases e;exact⟨b,lB.mp d1,q H1 s1⟩
  | _=>cases e⟩
theorem M1 {a b:Tf} {op:CmpOp} {r:R2} {g:D->D->Option D} {fa fb:FX} {pos:Pos} (ho:mr X (Tv op) r) (s:eQ X.K r g) (ha:FE X a fa) (hb:FE X b fb) (hm:Tw op b=false):FT X (.Compare a [op] [b] pos) (fB (f2 g fa fb)) :=
 PT.weak (Hi ho ha hb hm) (EK (xf s))

def Bn (K:RL) (r:List V->Hp->VK->Prop) (g:List D->Option D):Prop :=
 ∀ (ds:List D) (d:D) (xs:List V) (O:List S3) (H:Hp) (Q:VK),eL H O->g ds=some d->aZ K (hid H O) ds xs->(∀ v H',bn H H'->cY K (hid H' O) d v->Q v H')->r xs H Q
def fL (g:List D->Option D) (f:aq->R (List D)):FX:=fun ρ=>(f ρ).bind fun ds=>rO (g ds)
def fR (g:List D->R D) (f:aq->R (List D)):FX:=fun ρ=>(f ρ).bind g
theorem Dq {r:List V->Hp->VK->Prop} {g:List D->Option D} {f:aq->R (List D)} (s:Bn X.K r g):∀ σ H Q,tF X (fL g f) σ H Q->MY r (LZ X f) σ H Q:=fun σ H Q ⟨O,ρ,E,hF⟩ =>
 ⟨O,ρ,E,(jw.bind hF).imp fun ds hF vs H1 s1 d1=>by
  obtain⟨d,e,q⟩:=jw.rO hF;exact s ds d vs O H1 Q (E.all.same s1) e d1 fun v H2 s2 d2=>q v H2 (s1.trans s2) d2⟩

def jJ (f:aq->R Bool):aq->R Bool:=fun ρ=>(f ρ).bind fun b=>.ok (!b)
def Og (f g:aq->R Bool):aq->R Bool:=fun ρ=>(f ρ).bind fun b=>if b then g ρ else .ok false
def xN (f g:aq->R Bool):aq->R Bool:=fun ρ=>(f ρ).bind fun b=>if b then .ok true else g ρ
variable {a b c:Tf} {rest:List Tf} {pos:Pos} {f g:aq->R Bool}
theorem MQ (h:FT X a f):FT X (.UnaryOp .Not a pos) (jJ f):=PT.weak (IH h) fun σ H Q ⟨O,ρ,E,hF⟩=>⟨O,ρ,E,(jw.bind hF).imp fun b q H1 s1=>q H1 s1⟩
theorem Nu (h:FT X a f):FW X (.BoolOp .Or [a] pos) f:=Im h
theorem Ov (ha:FT X a f) (hb:FW X (.BoolOp .Or (b::rest) pos) g):FW X (.BoolOp .Or (a::b::rest) pos) (xN f g):=PW.weak (J5 ha hb) fun σ H Q ⟨O,ρ,E,hF⟩=>⟨O,ρ,E,(jw.bind hF).imp fun c hF H1 s1=>by
 cases c with
 | false=>exact Gx ⟨O,ρ,E.same s1,(hF.mono s1).imp fun b q H2 s2=>q H2 (s1.trans s2)⟩
 | true=>exact FL (hF H1 s1)⟩
theorem FW.ft {e:Tf} (h:FW X e f):FT X e f:=PW.pt h
def truth:D->Option Bool
 | .non=>some false
 | .bl b=>some b
 | .int i=>some (i != 0)
 | .str x=>if small x.length then some (x.length != 0) else none
 | .tup xs=>some (!xs.isEmpty)
 | .lst xs=>some (!xs.isEmpty)
 | _=>none
def cO (f:FX):aq->R Bool:=fun ρ=>(f ρ).bind fun d=>rO (truth d)

def zW (d:D) (k:R D):R D:=match d with
 | .bl true=>k
 | .bl false=>.ok (.bl false)
 | _=>un
def Lc (d:D) (k:R D):R D:=match d with
 | .bl false=>k
 | .bl true=>.ok (.bl true)
 | _=>un
def Ff:D->Option D
 | .bl b=>some (.bl (!b))
 | _=>none
def o3 (f g:FX):FX:=fun ρ=>(f ρ).bind fun d=>zW d (g ρ)
def Nw (f g:FX):FX:=fun ρ=>(f ρ).bind fun d=>Lc d (g ρ)
def x5 (f:FX):FX:=f1 Ff f
variable {fa fb:FX}
theorem Nv {op} (h:FE X a fa):FE X (.BoolOp op [a] pos) fa:=II h
theorem MX (ha:FE X a fa) (hb:FE X (.BoolOp .And (b::rest) pos) fb):FE X (.BoolOp .And (a::b::rest) pos) (o3 fa fb):=PE.weak (IM ha hb) fun σ H Q ⟨O,ρ,E,hF⟩=>⟨O,ρ,E,(jw.bind hF).imp fun d hF x H1 s1 d1=>by
 cases d with
 | bl c =>
  refine⟨c,lB.mp d1,?_⟩;cases c with
  | true=>exact FL ⟨O,ρ,E.same s1,(hF.mono s1).imp fun d q v H2 s2 d2=>q v H2 (s1.trans s2) d2⟩
  | false=>exact Gx (hF _ H1 s1 (lB.mpr rfl))
 | _=>exact hF.elim⟩
theorem N4 (ha:FE X a fa):FE X (.UnaryOp .Not a pos) (x5 fa):=PE.weak (Ih ha) fun σ H Q ⟨O,ρ,E,hF⟩=>⟨O,ρ,E,(jw.bind hF).imp fun d hF x H1 s1 d1=>by
 obtain⟨d',e,q⟩:=jw.rO hF;cases d with
 | bl c =>
  cases e;exact⟨c,lB.mp d1,q _ H1 s1 (lB.mpr rfl)⟩
 | _=>cases e⟩
def OU (t:aq->R Bool) (f g:FX):FX:=fun ρ=>(t ρ).bind fun c=>if c then f ρ else g ρ
end
end TG
namespace TG
open PySem PySem.Spec L2
variable [aX]
open PySem.SeqAt (EqAt RcAt RcNeAt)

mutual
def pyEq:D->D->Bool
 | .non,.non=>true
 | .bl a,.bl b=>a==b
 | .bl a,.int b=>(if a then 1 else 0)==b
 | .int a,.bl b=>a==(if b then 1 else 0)
 | .int a,.int b=>a==b
 | .str a,.str b=>a==b
 | .tup xs,.tup ys=>iH xs ys
 | .lst xs,.lst ys=>iH xs ys
 | .dct _ _,.dct _ _=>true
 | .obj _ _ _,.obj _ _ _=>true
 | .exc _ _ _,.exc _ _ _=>true
 | _,_=>false
def iH:List D->List D->Bool
 | [],[]=>true
 | x::xs,y::ys=>pyEq x y && iH xs ys
 | _,_=>false
end
mutual
theorem oo:∀ d:D,pyEq d d=true
 | .non=>by unfold pyEq; rfl
 | .bl b=>by unfold pyEq; simp
 | .int i=>by unfold pyEq; simp
 | .str x=>by unfold pyEq; simp
 | .tup xs=>by unfold pyEq; exact oK xs
 | .lst xs=>by unfold pyEq; exact oK xs
 | .dct _ _=>by unfold pyEq; rfl
 | .obj _ _ _=>by unfold pyEq; rfl
 | .exc _ _ _=>by unfold pyEq; rfl
theorem oK:∀ ds:List D,iH ds ds=true
 | []=>by unfold iH; rfl
 | d::ds=>by unfold iH; rw [oo d,oK ds]; rfl
end
def zL (xs ys:List D) (j:Nat):Bool:=match xs[j]?,ys[j]? with
 | some a,some b=>pyEq a b
 | _,_=>false
theorem hZ:∀ xs ys:List D,((List.range (min xs.length ys.length)).all (zL xs ys) && xs.length==ys.length)=iH xs ys
 | [],[]=>by unfold iH; rfl
 | [],_::_=>by unfold iH; simp
 | _::_,[]=>by unfold iH; simp
 | x::xs,y::ys=>by
  have ih:=hZ xs ys
  conv=>rhs; unfold iH
  rw [<- ih];have e:min (x::xs).length (y::ys).length=min xs.length ys.length+1:=by simp only [Pp]; omega
  rw [e,Qi,Qh,List.all_map];have e2:((x::xs).length==(y::ys).length)=(xs.length==ys.length):=by simp
  rw [e2,Bool.and_assoc];have e3:(List.range (min xs.length ys.length)).all (zL (x::xs) (y::ys) ∘ Nat.succ)=(List.range (min xs.length ys.length)).all (zL xs ys):=by
   congr 1
  rw [e3];rfl
mutual
def pl:D->Bool
 | .tup xs=>oF xs
 | .lst xs=>oF xs
 | .dct _ _=>false
 | .obj _ _ _=>false
 | .exc _ _ _=>false
 | _=>true
def oF:List D->Bool
 | []=>true
 | x::xs=>pl x && oF xs
end
theorem ig {ks vs:List D} (h:pl (.dct ks vs)=true):False:=by unfold pl at h; cases h
theorem hU {c:Str} {fs:List Str} {vs:List D} (h:pl (.obj c fs vs)=true):False:=by unfold pl at h; cases h
theorem gW {c:Str} {fs:List Str} {vs:List D} (h:pl (.exc c fs vs)=true):False:=by unfold pl at h; cases h
theorem nV:∀ {xs:List D},oF xs=true->∀ x∈xs,pl x=true
 | [],_,_,h=>nomatch h
 | x::xs,h,y,hy=>by
  unfold oF at h;rw [PP] at h;rcases List.mem_cons.mp hy with z | z
  ·rw [z]; exact h.1
  ·exact nV h.2 y z
theorem Fg:∀ {xs:List D},(∀ x∈xs,pl x=true)->oF xs=true
 | [],_=>by unfold oF; rfl
 | x::xs,h=>by
  unfold oF;rw [PP];exact⟨h x O6,Fg fun y hy=>h y (O7 _ hy)⟩
theorem d9 {xs:List D}:pl (.tup xs)=oF xs:=by rw [pl]
theorem fM {xs:List D}:pl (.lst xs)=oF xs:=by rw [pl]
def fK:Nat->D->Bool
 | n+1,.tup xs=>xs.all (fK n)
 | n+1,.lst xs=>xs.all (fK n)
 | 0,.tup _=>false
 | 0,.lst _=>false
 | _,.dct _ _=>false
 | _,.obj _ _ _=>false
 | _,.exc _ _ _=>false
 | _,_=>true

section
variable {X:Cx} {pins:List (S3×Obj)} {σ:St} {H:Hp} {s:Tc}
theorem Inv.not_both (I:Inv X pins σ H s) {a:S3} {xs ys:List V} (h:p8 X.K H a xs) (h':oZ X.K H a ys):False:=by
 obtain⟨its,_,ht,_⟩:=I.tuple h;obtain⟨its2,_,hl,_⟩:=I.list h';exact absurd rfl (SeqAt.ne_of_list_tuple hl.isList (show s.heap.IsTuple a its.toArray from ht))
mutual
theorem Inv.den_inj (I:Inv X pins σ H s):∀ {a b:D} {v:V},pl a=true->pl b=true->cY X.K H a v->cY X.K H b v->a=b
 | .non,b,v,pa,pb,h,h'=>by
  rw [lM] at h; subst h;cases b with
  | non=>rfl
  | bl _=>rw [lB] at h'; cases h'
  | int _=>rw [fW] at h'; cases h'
  | str _=>rw [fU] at h'; cases h'
  | tup _=>rw [cJ] at h'; obtain⟨_,_,e,_⟩:=h'; cases e
  | lst _=>rw [cI] at h'; obtain⟨_,_,e,_⟩:=h'; cases e
  | dct _ _=>exact(ig pb).elim
  | obj _ _ _=>exact(hU pb).elim
  | exc _ _ _=>exact(gW pb).elim
 | .bl x,b,v,pa,pb,h,h'=>by
  rw [lB] at h; subst h;cases b with
  | non=>rw [lM] at h'; cases h'
  | bl _=>rw [lB] at h'; cases h'; rfl
  | int _=>rw [fW] at h'; cases h'
  | str _=>rw [fU] at h'; cases h'
  | tup _=>rw [cJ] at h'; obtain⟨_,_,e,_⟩:=h'; cases e
  | lst _=>rw [cI] at h'; obtain⟨_,_,e,_⟩:=h'; cases e
  | dct _ _=>exact(ig pb).elim
  | obj _ _ _=>exact(hU pb).elim
  | exc _ _ _=>exact(gW pb).elim
 | .int x,b,v,pa,pb,h,h'=>by
  rw [fW] at h; subst h;cases b with
  | non=>rw [lM] at h'; cases h'
  | bl _=>rw [lB] at h'; cases h'
  | int _=>rw [fW] at h'; cases h'; rfl
  | str _=>rw [fU] at h'; cases h'
  | tup _=>rw [cJ] at h'; obtain⟨_,_,e,_⟩:=h'; cases e
  | lst _=>rw [cI] at h'; obtain⟨_,_,e,_⟩:=h'; cases e
  | dct _ _=>exact(ig pb).elim
  | obj _ _ _=>exact(hU pb).elim
  | exc _ _ _=>exact(gW pb).elim
 | .str x,b,v,pa,pb,h,h'=>by
  rw [fU] at h; subst h;cases b with
  | non=>rw [lM] at h'; cases h'
  | bl _=>rw [lB] at h'; cases h'
  | int _=>rw [fW] at h'; cases h'
  | str _=>rw [fU] at h'; cases h'; rfl
  | tup _=>rw [cJ] at h'; obtain⟨_,_,e,_⟩:=h'; cases e
  | lst _=>rw [cI] at h'; obtain⟨_,_,e,_⟩:=h'; cases e
  | dct _ _=>exact(ig pb).elim
  | obj _ _ _=>exact(hU pb).elim
  | exc _ _ _=>exact(gW pb).elim
 | .tup xs,b,v,pa,pb,h,h'=>by
  rw [cJ] at h;obtain⟨a,vs,e,h1,h2⟩:=h;subst e;cases b with
  | non=>rw [lM] at h'; cases h'
  | bl _=>rw [lB] at h'; cases h'
  | int _=>rw [fW] at h'; cases h'
  | str _=>rw [fU] at h'; cases h'
  | tup ys =>
   rw [cJ] at h';obtain⟨a',vs',e,h1',h2'⟩:=h';cases e;have ev:=I.tuple_inj (p8.of h1) (p8.of h1');subst ev;rw [Inv.denL_inj I (by first | rw [<- d9]; exact pa | rw [<- fM]; exact pa) (by first | rw [<- d9]; exact pb | rw [<- fM]; exact pb) h2 h2']
  | lst _=>rw [cI] at h'; obtain⟨_,_,e,h1',_⟩:=h'; cases e; exact(Inv.not_both I (p8.of h1) h1').elim
  | dct _ _=>exact(ig pb).elim
  | obj _ _ _=>exact(hU pb).elim
  | exc _ _ _=>exact(gW pb).elim
 | .lst xs,b,v,pa,pb,h,h'=>by
  rw [cI] at h;obtain⟨a,vs,e,h1,h2⟩:=h;subst e;cases b with
  | non=>rw [lM] at h'; cases h'
  | bl _=>rw [lB] at h'; cases h'
  | int _=>rw [fW] at h'; cases h'
  | str _=>rw [fU] at h'; cases h'
  | lst ys =>
   rw [cI] at h';obtain⟨a',vs',e,h1',h2'⟩:=h';cases e;have ev:=I.list_inj h1 h1';subst ev;rw [Inv.denL_inj I (by first | rw [<- d9]; exact pa | rw [<- fM]; exact pa) (by first | rw [<- d9]; exact pb | rw [<- fM]; exact pb) h2 h2']
  | tup _=>rw [cJ] at h'; obtain⟨_,_,e,h1',_⟩:=h'; cases e; exact(Inv.not_both I (p8.of h1') h1).elim
  | dct _ _=>exact(ig pb).elim
  | obj _ _ _=>exact(hU pb).elim
  | exc _ _ _=>exact(gW pb).elim
 | .dct _ _,_,_,pa,_,_,_=>(ig pa).elim
 | .obj _ _ _,_,_,pa,_,_,_=>(hU pa).elim
 | .exc _ _ _,_,_,pa,_,_,_=>(gW pa).elim
theorem Inv.denL_inj (I:Inv X pins σ H s):∀ {as bs:List D} {vs:List V},oF as=true->oF bs=true->aZ X.K H as vs->aZ X.K H bs vs->as=bs
 | [],bs,vs,pa,pb,h,h'=>by
  rw [cZ] at h; subst h;cases bs with
  | nil=>rfl
  | cons b bs=>rw [bB] at h'; obtain⟨_,_,e,_⟩:=h'; cases e
 | a::as,bs,vs,pa,pb,h,h'=>by
  rw [bB] at h;obtain⟨v,r,e,h1,h2⟩:=h;subst e;cases bs with
  | nil=>rw [cZ] at h'; cases h'
  | cons b bs =>
   rw [bB] at h';obtain⟨v',r',e,h1',h2'⟩:=h';cases e;unfold oF at pa pb;rw [PP] at pa pb;rw [Inv.den_inj I pa.1 pb.1 h1 h1',Inv.denL_inj I pa.2 pb.2 h2 h2']
end

def oG:D->Option V
 | .non=>some .non
 | .bl b=>some (.bl b)
 | .int i=>some (.int i)
 | .str x=>some (.str x)
 | _=>none
theorem qz {K:RL} {d:D} {v x:V} (h:oG d=some x) (hd:cY K H d v):v=x/\EH x=true:=by
 cases d with
 | non=>cases h; exact⟨lM.mp hd,rfl⟩
 | bl b=>cases h; exact⟨lB.mp hd,rfl⟩
 | int i=>cases h; exact⟨fW.mp hd,rfl⟩
 | str y=>cases h; exact⟨fU.mp hd,rfl⟩
 | _=>cases h
theorem FV {a b:D} {x y:V} (ha:oG a=some x) (hb:oG b=some y):Mo x y=pyEq a b:=by
 cases a <;> cases ha <;> cases b <;> cases hb <;> (unfold pyEq Mo; rfl)
theorem x8 {a:D} {x:V} (n:Nat) (h:oG a=some x):fK n a=true:=by
 cases a with
 | tup _=>cases h
 | lst _=>cases h
 | dct _ _=>cases h
 | obj _ _ _=>cases h
 | exc _ _ _=>cases h
 | _=>cases n <;> rfl
theorem zb {a:D} (h:oG a=none):fK 0 a=false:=by
 cases a with
 | tup _=>rfl
 | lst _=>rfl
 | dct _ _=>rfl
 | obj _ _ _=>rfl
 | exc _ _ _=>rfl
 | _=>cases h
theorem in1_units (A:Tb):A.in1.units=A.units+1:=rfl
theorem pB {vs:List V} {us:List SY} (r:Vals vs us) {j:Nat} (h:j < us.toArray.size):∃ x,vs[j]?=some x/\RelV x us.toArray[j]:=by
 have hj:j < us.length:=by simpa using h
 have hl:=r.length;have hv:j < vs.length:=by omega
 obtain⟨u,e,ru⟩:=r.get (i:=j) (x:=vs[j]) (by simp [hv]);refine⟨vs[j],by simp [hv],?_⟩;have e2:us.toArray[j]=u:=by
  rw [Qj hj] at e
  simpa using Option.some.inj e
 rw [e2]; exact ru
theorem o9 {K:RL} {ds:List D} {vs:List V} (h:aZ K H ds vs) {j:Nat} {x:V} (e:vs[j]?=some x):∃ d,ds[j]?=some d/\cY K H d x:=by
 have hj:j < vs.length:=(List.getElem?_eq_some_iff.mp e).1;have hl:=h.length;have hd:j < ds.length:=by omega
 obtain⟨v,e1,e2⟩:=h.get (i:=j) (d:=ds[j]) (by simp [hd]);rw [e] at e1; cases e1;exact⟨ds[j],by simp [hd],e2⟩

theorem Ee (I:Inv X pins σ H s):∀ (n:Nat) (a b:D) (x y:V) (u v:SY) (A:Tb),pl a=true->pl b=true->(fK n a=true\/fK n b=true)->cY X.K H a x->cY X.K H b y->RelV x u->RelV y v->A.units+n < TJ->EqAt A s u v (pyEq a b):=by
 intro n
 induction n with
 | zero =>
  intro a b x y u v A pa pb hd ha hb ru rv hA;have hu:A.units < TJ:=hA;cases ha':oG a with
  | some x' =>
   obtain⟨e,f⟩:=qz ha' ha;subst e;cases hb':oG b with
   | some y' =>
    obtain⟨e,f'⟩:=qz hb' hb;subst e;rw [<- FV ha' hb'];exact IL ru rv f f'
   | none =>
    cases b with
    | tup ys =>
     rw [cJ] at hb;obtain⟨p,vs,e,h1,h2⟩:=hb;subst e;cases rv;obtain⟨its,_,ht,_⟩:=I.tuple (p8.of h1);have ht':s.heap.IsTuple p its.toArray:=ht;cases a with
     | non=>cases ha'; cases ru; unfold pyEq; exact .none_tuple ht' hu
     | bl z=>cases ha'; cases ru; unfold pyEq; exact .bool_tuple z ht' hu
     | int z=>cases ha'; obtain⟨t,rfl⟩:=ru; unfold pyEq; exact .int_tuple z t ht' hu
     | str z=>cases ha'; obtain⟨t,rfl⟩:=ru; unfold pyEq; exact .str_tuple z t ht' hu
     | _=>cases ha'
    | lst ys =>
     rw [cI] at hb;obtain⟨p,vs,e,h1,h2⟩:=hb;subst e;cases rv;obtain⟨its,_,ht,_⟩:=I.list h1;have ht':s.heap.IsList p its.toArray:=ht.isList;cases a with
     | non=>cases ha'; cases ru; unfold pyEq; exact .none_list ht' hu
     | bl z=>cases ha'; cases ru; unfold pyEq; exact .bool_list z ht' hu
     | int z=>cases ha'; obtain⟨t,rfl⟩:=ru; unfold pyEq; exact .int_list z t ht' hu
     | str z=>cases ha'; obtain⟨t,rfl⟩:=ru; unfold pyEq; exact .str_list z t ht' hu
     | _=>cases ha'
    | dct _ _=>exact(ig pb).elim
    | obj _ _ _=>exact(hU pb).elim
    | exc _ _ _=>exact(gW pb).elim
    | _=>cases hb'
  | none =>
   have hdb:fK 0 b=true:=by
    rcases hd with hd | hd
    ·rw [zb ha'] at hd; cases hd
    ·exact hd
   cases hb':oG b with
   | none=>rw [zb hb'] at hdb; cases hdb
   | some y' =>
    obtain⟨e,f'⟩:=qz hb' hb;subst e;cases a with
    | tup xs =>
     rw [cJ] at ha;obtain⟨p,vs,e,h1,h2⟩:=ha;subst e;cases ru;obtain⟨its,_,ht,_⟩:=I.tuple (p8.of h1);have ht':s.heap.IsTuple p its.toArray:=ht;cases b with
     | non=>cases hb'; cases rv; unfold pyEq; exact .tuple_none ht' hu
     | bl z=>cases hb'; cases rv; unfold pyEq; exact .tuple_bool z ht' hu
     | int z=>cases hb'; obtain⟨t,rfl⟩:=rv; unfold pyEq; exact .tuple_int z t ht' hu
     | str z=>cases hb'; obtain⟨t,rfl⟩:=rv; unfold pyEq; exact .tuple_str z t ht' hu
     | _=>cases hb'
    | lst xs =>
     rw [cI] at ha;obtain⟨p,vs,e,h1,h2⟩:=ha;subst e;cases ru;obtain⟨its,_,ht,_⟩:=I.list h1;have ht':s.heap.IsList p its.toArray:=ht.isList;cases b with
     | non=>cases hb'; cases rv; unfold pyEq; exact .list_none ht' hu
     | bl z=>cases hb'; cases rv; unfold pyEq; exact .list_bool z ht' hu
     | int z=>cases hb'; obtain⟨t,rfl⟩:=rv; unfold pyEq; exact .list_int z t ht' hu
     | str z=>cases hb'; obtain⟨t,rfl⟩:=rv; unfold pyEq; exact .list_str z t ht' hu
     | _=>cases hb'
    | dct _ _=>exact(ig pa).elim
    | obj _ _ _=>exact(hU pa).elim
    | exc _ _ _=>exact(gW pa).elim
    | _=>cases ha'
 | succ n ih =>
  intro a b x y u v A pa pb hd ha hb ru rv hA;have hu:A.units < TJ:=by omega
  have flatWay:(∀ xs ys,¬ (a=.tup xs/\b=.tup ys))->(∀ xs ys,¬ (a=.lst xs/\b=.lst ys))->EqAt A s u v (pyEq a b):=by
   intro n1 n2;cases ha':oG a with
   | some x'=>exact ih a b x y u v A pa pb (.inl (x8 n ha')) ha hb ru rv ‹0›
   | none =>
    cases hb':oG b with
    | some y'=>exact ih a b x y u v A pa pb (.inr (x8 n hb')) ha hb ru rv ‹0›
    | none =>
     cases a with
     | tup xs =>
      cases b with
      | tup ys=>exact absurd ⟨rfl,rfl⟩ (n1 xs ys)
      | lst ys =>
       rw [cJ] at ha;obtain⟨p,vs,e,h1,h2⟩:=ha;subst e;rw [cI] at hb;obtain⟨p',vs',e,h1',h2'⟩:=hb;subst e;cases ru;cases rv;obtain⟨its,_,ht,_⟩:=I.tuple (p8.of h1);obtain⟨its2,_,ht2,_⟩:=I.list h1';unfold pyEq;exact .tuple_list (show s.heap.IsTuple p its.toArray from ht) ht2.isList hu
      | dct _ _=>exact(ig pb).elim
      | obj _ _ _=>exact(hU pb).elim
      | exc _ _ _=>exact(gW pb).elim
      | _=>cases hb'
     | lst xs =>
      cases b with
      | lst ys=>exact absurd ⟨rfl,rfl⟩ (n2 xs ys)
      | tup ys =>
       rw [cI] at ha;obtain⟨p,vs,e,h1,h2⟩:=ha;subst e;rw [cJ] at hb;obtain⟨p',vs',e,h1',h2'⟩:=hb;subst e;cases ru;cases rv;obtain⟨its,_,ht,_⟩:=I.list h1;obtain⟨its2,_,ht2,_⟩:=I.tuple (p8.of h1');unfold pyEq;exact .list_tuple ht.isList (show s.heap.IsTuple p' its2.toArray from ht2) hu
      | dct _ _=>exact(ig pb).elim
      | obj _ _ _=>exact(hU pb).elim
      | exc _ _ _=>exact(gW pb).elim
      | _=>cases hb'
     | dct _ _=>exact(ig pa).elim
     | obj _ _ _=>exact(hU pa).elim
     | exc _ _ _=>exact(gW pa).elim
     | _=>cases ha'
  have items:∀ (xs ys:List D) (vs vs':List V) (its its':List SY),oF xs=true->oF ys=true->(fK (n+1) (.tup xs)=true\/fK (n+1) (.tup ys)=true)->aZ X.K H xs vs->aZ X.K H ys vs'->Vals vs its->Vals vs' its' ->
    ∀ j (h1:j < its.toArray.size) (h2:j < its'.toArray.size),EqAt A.in1 s its.toArray[j] its'.toArray[j] (zL xs ys j):=by
   intro xs ys vs vs' its its' px py hdd hx hy rx ry j h1 h2;obtain⟨w1,e1,r1⟩:=pB rx h1;obtain⟨w2,e2,r2⟩:=pB ry h2;obtain⟨d1,f1,g1⟩:=o9 hx e1;obtain⟨d2,f2,g2⟩:=o9 hy e2;have e3:zL xs ys j=pyEq d1 d2:=(by unfold zL; rw [f1,f2]);rw [e3];refine ih d1 d2 w1 w2 _ _ A.in1 (nV px _ (PJ f1)) (nV py _ (PJ f2)) ?_ g1 g2 r1 r2 (by rw [in1_units]; omega);rcases hdd with hdd | hdd
   ·exact .inl (List.all_eq_true.mp hdd d1 (PJ f1))
   ·exact .inr (List.all_eq_true.mp hdd d2 (PJ f2))
  by_cases hT:∃ xs ys,a=.tup xs/\b=.tup ys
  ·obtain⟨xs,ys,rfl,rfl⟩:=hT;have da:=ha;have db:=hb;rw [cJ] at ha hb;obtain⟨p,vs,e,h1,h2⟩:=ha;subst e;obtain⟨p',vs',e,h1',h2'⟩:=hb;subst e;cases ru;cases rv;by_cases hp:p=p'
   ·subst hp;have e:=Inv.den_inj I pa pb da db;rw [e,oo];exact EqAt.same _
   ·obtain⟨its,rv1,ht,_⟩:=I.tuple (p8.of h1);obtain⟨its2,rv2,ht2,_⟩:=I.tuple (p8.of h1');refine EqAt.of_refs hp ?_;have q:=RcAt.tuples (e:=zL xs ys) (show s.heap.IsTuple p its.toArray from ht) (show s.heap.IsTuple p' its2.toArray from ht2) hu (items xs ys vs vs' its its2 (by first | rw [<- d9]; exact pa | rw [<- fM]; exact pa) (by first | rw [<- d9]; exact pb | rw [<- fM]; exact pb) hd h2 h2' rv1 rv2);have z1:its.toArray.size=xs.length:=(by rw [Pm,<- rv1.length,<- h2.length]);have z2:its2.toArray.size=ys.length:=(by rw [Pm,<- rv2.length,<- h2'.length]);rw [z1,z2,hZ] at q;unfold pyEq;exact q
  ·by_cases hL:∃ xs ys,a=.lst xs/\b=.lst ys
   ·obtain⟨xs,ys,rfl,rfl⟩:=hL;have da:=ha;have db:=hb;rw [cI] at ha hb;obtain⟨p,vs,e,h1,h2⟩:=ha;subst e;obtain⟨p',vs',e,h1',h2'⟩:=hb;subst e;cases ru;cases rv;by_cases hp:p=p'
    ·subst hp;have e:=Inv.den_inj I pa pb da db;rw [e,oo];exact EqAt.same _
    ·obtain⟨its,rv1,ht,_⟩:=I.list h1;obtain⟨its2,rv2,ht2,_⟩:=I.list h1';refine EqAt.of_refs hp ?_;have z1:its.toArray.size=xs.length:=(by rw [Pm,<- rv1.length,<- h2.length]);have z2:its2.toArray.size=ys.length:=(by rw [Pm,<- rv2.length,<- h2'.length]);have er:=hZ xs ys;by_cases hz:its.toArray.size=its2.toArray.size
     ·have q:=RcAt.lists (e:=zL xs ys) ht.isList ht2.isList hz hu (items xs ys vs vs' its its2 (by first | rw [<- d9]; exact pa | rw [<- fM]; exact pa) (by first | rw [<- d9]; exact pb | rw [<- fM]; exact pb) hd h2 h2' rv1 rv2);rw [z1] at q;have hz':xs.length=ys.length:=(by omega);rw [<- hz',Qk] at er;simp only [beq_self_eq_true,Ql] at er;rw [er] at q;unfold pyEq;exact q
     ·have hne:(its.toArray.size != its2.toArray.size)=true:=(by simpa using hz);have q:=RcAt.lists_lengths (A:=A) ht.isList ht2.isList hne hu;have hz':(xs.length==ys.length)=false:=by
       rw [z1,z2] at hz
       simpa using hz
      rw [hz',PV] at er;unfold pyEq;rw [<- er];exact q
   ·exact flatWay (fun xs ys z=>hT ⟨xs,ys,z⟩) fun xs ys z=>hL ⟨xs,ys,z⟩
end
end TG
namespace TG
open PySem PySem.Spec L2
variable [aX]
open PySem.SeqAt (EqAt RcAt RcNeAt)

section
variable {X:Cx} {pins:List (S3×Obj)} {σ:St} {H:Hp} {s:Tc}
theorem rL (I:Inv X pins σ H s) {n:Nat} {xs ys:List D} {vs vs':List V} {its its':List SY} {A:Tb} (px:oF xs=true) (py:oF ys=true) (hdd:fK (n+1) (.tup xs)=true\/fK (n+1) (.tup ys)=true) (hx:aZ X.K H xs vs) (hy:aZ X.K H ys vs') (rx:Vals vs its) (ry:Vals vs' its') (hA:A.units+n < TJ) :
  ∀ j (h1:j < its.toArray.size) (h2:j < its'.toArray.size),EqAt A s its.toArray[j] its'.toArray[j] (zL xs ys j):=by
 intro j h1 h2;obtain⟨w1,e1,r1⟩:=pB rx h1;obtain⟨w2,e2,r2⟩:=pB ry h2;obtain⟨d1,f1,g1⟩:=o9 hx e1;obtain⟨d2,f2,g2⟩:=o9 hy e2;have e3:zL xs ys j=pyEq d1 d2:=by unfold zL; rw [f1,f2]
 rw [e3];refine Ee I n d1 d2 w1 w2 _ _ A (nV px _ (PJ f1)) (nV py _ (PJ f2)) ?_ g1 g2 r1 r2 hA;rcases hdd with hdd | hdd
 ·exact .inl (List.all_eq_true.mp hdd d1 (PJ f1))
 ·exact .inr (List.all_eq_true.mp hdd d2 (PJ f2))
inductive Way (I:Inv X pins σ H s):D->SY->Prop where
 | non:Way I .non .none
 | bl (b:Bool):Way I (.bl b) (.bool b)
 | int (i:Int) (t:Tok):Way I (.int i) (.int i t)
 | str (x:Str) (t:Tok):Way I (.str x) (.str x t)
 | tup {xs:List D} {p:S3} {vs:List V} {its:List SY} (h:aZ X.K H xs vs) (r:Vals vs its) (t:s.heap.IsTuple p its.toArray):Way I (.tup xs) (.ref p)
 | lst {xs:List D} {p:S3} {vs:List V} {its:List SY} (h:aZ X.K H xs vs) (r:Vals vs its) (t:s.heap.IsList p its.toArray):Way I (.lst xs) (.ref p)
def top:D->Bool
 | .dct _ _=>false
 | .obj _ _ _=>false
 | .exc _ _ _=>false
 | _=>true
theorem gu {d:D} (h:pl d=true):top d=true:=by
 cases d with
 | dct _ _=>exact(ig h).elim
 | obj _ _ _=>exact(hU h).elim
 | exc _ _ _=>exact(gW h).elim
 | _=>rfl
theorem ga (I:Inv X pins σ H s) {d:D} {v:V} {u:SY} (pd:top d=true) (h:cY X.K H d v) (r:RelV v u):Way I d u:=by
 cases d with
 | non=>rw [lM] at h; subst h; cases r; exact .non
 | bl b=>rw [lB] at h; subst h; cases r; exact .bl b
 | int i=>rw [fW] at h; subst h; obtain⟨t,rfl⟩:=r; exact .int i t
 | str x=>rw [fU] at h; subst h; obtain⟨t,rfl⟩:=r; exact .str x t
 | tup xs =>
  rw [cJ] at h;obtain⟨p,vs,e,h1,h2⟩:=h;subst e;cases r;obtain⟨its,rv,ht,_⟩:=I.tuple (p8.of h1);exact .tup h2 rv ht
 | lst xs =>
  rw [cI] at h;obtain⟨p,vs,e,h1,h2⟩:=h;subst e;cases r;obtain⟨its,rv,ht,_⟩:=I.list h1;exact .lst h2 rv ht.isList
 | dct _ _=>cases pd
 | obj _ _ _=>cases pd
 | exc _ _ _=>cases pd
theorem JG (I:Inv X pins σ H s) {n:Nat} {a b:D} {x y:V} {u v:SY} {A:Tb} (pa:pl a=true) (pb:pl b=true) (hd:fK (n+1) a=true\/fK (n+1) b=true) (ha:cY X.K H a x) (hb:cY X.K H b y) (ru:RelV x u) (rv:RelV y v) (hA:A.units+n+1 < TJ):RcAt A s u v (pyEq a b):=by
 have hu:A.units < TJ:=by omega
 cases ga I (gu pa) ha ru with
 | non=>cases ga I (gu pb) hb rv with
  | non=>unfold pyEq; exact .none_none
  | bl b=>unfold pyEq; exact .none_bool b
  | int i t=>unfold pyEq; exact .none_int i t
  | str x t=>unfold pyEq; exact .none_str x t
  | tup h r t=>unfold pyEq; exact .none_tuple t hu
  | lst h r t=>unfold pyEq; exact .none_list t hu
 | bl z=>cases ga I (gu pb) hb rv with
  | non=>unfold pyEq; exact .bool_none z
  | bl b=>unfold pyEq; exact .bool_bool z b
  | int i t=>unfold pyEq; exact .bool_int z i t
  | str x t=>unfold pyEq; exact .bool_str z x t
  | tup h r t=>unfold pyEq; exact .bool_tuple z t hu
  | lst h r t=>unfold pyEq; exact .bool_list z t hu
 | int z tz=>cases ga I (gu pb) hb rv with
  | non=>unfold pyEq; exact .int_none z tz
  | bl b=>unfold pyEq; exact .int_bool z tz b
  | int i t=>unfold pyEq; exact .int_int z tz i t
  | str x t=>unfold pyEq; exact .int_str z tz x t
  | tup h r t=>unfold pyEq; exact .int_tuple z tz t hu
  | lst h r t=>unfold pyEq; exact .int_list z tz t hu
 | str z tz=>cases ga I (gu pb) hb rv with
  | non=>unfold pyEq; exact .str_none z tz
  | bl b=>unfold pyEq; exact .str_bool z tz b
  | int i t=>unfold pyEq; exact .str_int z tz i t
  | str x t=>unfold pyEq; exact .str_str z tz x t
  | tup h r t=>unfold pyEq; exact .str_tuple z tz t hu
  | lst h r t=>unfold pyEq; exact .str_list z tz t hu
 | @tup xs p vs its h1 r1 t1=>cases ga I (gu pb) hb rv with
  | non=>unfold pyEq; exact .tuple_none t1 hu
  | bl b=>unfold pyEq; exact .tuple_bool b t1 hu
  | int i t=>unfold pyEq; exact .tuple_int i t t1 hu
  | str x t=>unfold pyEq; exact .tuple_str x t t1 hu
  | @tup ys p' vs' its' h2 r2 t2 =>
   have q:=RcAt.tuples (e:=zL xs ys) t1 t2 hu (rL (A:=A.in1) I (by first | rw [<- d9]; exact pa | rw [<- fM]; exact pa) (by first | rw [<- d9]; exact pb | rw [<- fM]; exact pb) hd h1 h2 r1 r2 (by rw [in1_units]; omega));have z1:its.toArray.size=xs.length:=(by rw [Pm,<- r1.length,<- h1.length]);have z2:its'.toArray.size=ys.length:=(by rw [Pm,<- r2.length,<- h2.length]);rw [z1,z2,hZ] at q;unfold pyEq; exact q
  | lst h r t=>unfold pyEq; exact .tuple_list t1 t hu
 | @lst xs p vs its h1 r1 t1=>cases ga I (gu pb) hb rv with
  | non=>unfold pyEq; exact .list_none t1 hu
  | bl b=>unfold pyEq; exact .list_bool b t1 hu
  | int i t=>unfold pyEq; exact .list_int i t t1 hu
  | str x t=>unfold pyEq; exact .list_str x t t1 hu
  | tup h r t=>unfold pyEq; exact .list_tuple t1 t hu
  | @lst ys p' vs' its' h2 r2 t2 =>
   have z1:its.toArray.size=xs.length:=(by rw [Pm,<- r1.length,<- h1.length]);have z2:its'.toArray.size=ys.length:=(by rw [Pm,<- r2.length,<- h2.length]);have er:=hZ xs ys;by_cases hz:its.toArray.size=its'.toArray.size
   ·have q:=RcAt.lists (e:=zL xs ys) t1 t2 hz hu (rL (A:=A.in1) I (by first | rw [<- d9]; exact pa | rw [<- fM]; exact pa) (by first | rw [<- d9]; exact pb | rw [<- fM]; exact pb) hd h1 h2 r1 r2 (by rw [in1_units]; omega));rw [z1] at q;have hz':xs.length=ys.length:=(by omega);rw [<- hz',Qk] at er;simp only [beq_self_eq_true,Ql] at er;rw [er] at q;unfold pyEq; exact q
   ·have q:=RcAt.lists_lengths (A:=A) t1 t2 (by simpa using hz) hu;have hz':(xs.length==ys.length)=false:=by
     rw [z1,z2] at hz
     simpa using hz
    rw [hz',PV] at er;unfold pyEq;rw [<- er]; exact q
theorem DG (I:Inv X pins σ H s) {n:Nat} {a b:D} {x y:V} {u v:SY} {A:Tb} (pa:pl a=true) (pb:pl b=true) (hd:fK (n+1) a=true\/fK (n+1) b=true) (ha:cY X.K H a x) (hb:cY X.K H b y) (ru:RelV x u) (rv:RelV y v) (hA:A.units+n+1 < TJ):RcNeAt A s u v (!pyEq a b):=by
 have hu:A.units < TJ:=by omega
 cases ga I (gu pa) ha ru with
 | non=>cases ga I (gu pb) hb rv with
  | non=>unfold pyEq; exact .none_none
  | bl b=>unfold pyEq; exact .none_bool b
  | int i t=>unfold pyEq; exact .none_int i t
  | str x t=>unfold pyEq; exact .none_str x t
  | tup h r t=>unfold pyEq; exact .none_tuple t hu
  | lst h r t=>unfold pyEq; exact .none_list t hu
 | bl z=>cases ga I (gu pb) hb rv with
  | non=>unfold pyEq; exact .bool_none z
  | bl b=>unfold pyEq; exact .bool_bool z b
  | int i t=>unfold pyEq; exact .bool_int z i t
  | str x t=>unfold pyEq; exact .bool_str z x t
  | tup h r t=>unfold pyEq; exact .bool_tuple z t hu
  | lst h r t=>unfold pyEq; exact .bool_list z t hu
 | int z tz=>cases ga I (gu pb) hb rv with
  | non=>unfold pyEq; exact .int_none z tz
  | bl b=>unfold pyEq; exact .int_bool z tz b
  | int i t=>unfold pyEq; exact .int_int z tz i t
  | str x t=>unfold pyEq; exact .int_str z tz x t
  | tup h r t=>unfold pyEq; exact .int_tuple z tz t hu
  | lst h r t=>unfold pyEq; exact .int_list z tz t hu
 | str z tz=>cases ga I (gu pb) hb rv with
  | non=>unfold pyEq; exact .str_none z tz
  | bl b=>unfold pyEq; exact .str_bool z tz b
  | int i t=>unfold pyEq; exact .str_int z tz i t
  | str x t=>unfold pyEq; exact .str_str z tz x t
  | tup h r t=>unfold pyEq; exact .str_tuple z tz t hu
  | lst h r t=>unfold pyEq; exact .str_list z tz t hu
 | @tup xs p vs its h1 r1 t1=>cases ga I (gu pb) hb rv with
  | non=>unfold pyEq; exact .tuple_none t1 hu
  | bl b=>unfold pyEq; exact .tuple_bool b t1 hu
  | int i t=>unfold pyEq; exact .tuple_int i t t1 hu
  | str x t=>unfold pyEq; exact .tuple_str x t t1 hu
  | @tup ys p' vs' its' h2 r2 t2 =>
   have q:=RcNeAt.tuples (e:=zL xs ys) t1 t2 hu (rL (A:=A.in1) I (by first | rw [<- d9]; exact pa | rw [<- fM]; exact pa) (by first | rw [<- d9]; exact pb | rw [<- fM]; exact pb) hd h1 h2 r1 r2 (by rw [in1_units]; omega));have z1:its.toArray.size=xs.length:=(by rw [Pm,<- r1.length,<- h1.length]);have z2:its'.toArray.size=ys.length:=(by rw [Pm,<- r2.length,<- h2.length]);rw [z1,z2,hZ] at q;unfold pyEq; exact q
  | lst h r t=>unfold pyEq; exact .tuple_list t1 t hu
 | @lst xs p vs its h1 r1 t1=>cases ga I (gu pb) hb rv with
  | non=>unfold pyEq; exact .list_none t1 hu
  | bl b=>unfold pyEq; exact .list_bool b t1 hu
  | int i t=>unfold pyEq; exact .list_int i t t1 hu
  | str x t=>unfold pyEq; exact .list_str x t t1 hu
  | tup h r t=>unfold pyEq; exact .list_tuple t1 t hu
  | @lst ys p' vs' its' h2 r2 t2 =>
   have z1:its.toArray.size=xs.length:=(by rw [Pm,<- r1.length,<- h1.length]);have z2:its'.toArray.size=ys.length:=(by rw [Pm,<- r2.length,<- h2.length]);have er:=hZ xs ys;by_cases hz:its.toArray.size=its'.toArray.size
   ·have q:=RcNeAt.lists (e:=zL xs ys) t1 t2 hz hu (rL (A:=A.in1) I (by first | rw [<- d9]; exact pa | rw [<- fM]; exact pa) (by first | rw [<- d9]; exact pb | rw [<- fM]; exact pb) hd h1 h2 r1 r2 (by rw [in1_units]; omega));rw [z1] at q;have hz':xs.length=ys.length:=(by omega);rw [<- hz',Qk] at er;simp only [beq_self_eq_true,Ql] at er;rw [er] at q;unfold pyEq; exact q
   ·have q:=RcNeAt.lists_lengths (A:=A) t1 t2 (by simpa using hz) hu;have hz':(xs.length==ys.length)=false:=by
     rw [z1,z2] at hz
     simpa using hz
    rw [hz',PV] at er;unfold pyEq;rw [<- er]; exact q
end

section
variable {X:Cx}
def rD (K:RL) (g:D->D->Option D):R2:=fun x y H Q=>∃ O a b d,eL H O/\cY K (hid H O) a x/\cY K (hid H O) b y/\g a b=some d/\∀ v H',bn H H'->cY K (hid H' O) d v->Q v H'
theorem av {K:RL} {g:D->D->Option D}:eQ K (rD K g) g:=fun a b d x y O H Q hO hg ha hb q=>⟨O,a,b,d,hO,ha,hb,hg,q⟩
theorem ph {f : SY -> SY -> Sem SY} {g : D -> D -> Option D} (h : ∀ (pins : List (S3 × Obj)) (s : Tc) (σ : St) (H : Hp) (a b d : D) (x y : V) (u v : SY), Inv X pins σ H s -> cY X.K H a x -> cY X.K H b y -> RelV x u -> RelV y v -> g a b = some d ->
      ∃ c,d=.bl c/\∀ (Q:SY->Tc->Prop),Q (.bool c) s->Te (model X.prog X.w) X.A (f u v) Q X.xe s):mr X f (rD X.K g):=by
  intro pins s σ H x y u v Q I rx ry ⟨O,a,b,d,hO,ha,hb,hg,q⟩;obtain⟨c,rfl,hq⟩:=h pins s σ H a b d x y u v I (ha.mono (aB H O)) (hb.mono (aB H O)) rx ry hg;exact hq _ ⟨.bl c,H,I,rfl,q _ H (bn.refl H) (lB.mpr rfl)⟩
def mj (a b:D):Option D:=if (pl a && pl b) && (fK 8 a || fK 8 b) then some (.bl (pyEq a b)) else none
def ye (a b:D):Option D:=if (pl a && pl b) && (fK 8 a || fK 8 b) then some (.bl (!pyEq a b)) else none
theorem e9 (hu:X.A.units+64 < TJ):mr X (Tv .Eq) (rD X.K mj):=ph fun pins s σ H a b d x y u v I ha hb ru rv hg=>by
 obtain⟨h1,h2⟩:=bH hg;subst h2;rw [PP,PP,Qm] at h1;exact⟨_,rfl,fun Q q=>JG (n:=7) (A:=X.A) I h1.1.1 h1.1.2 h1.2 ha hb ru rv ‹0› X.prog X.w X.xe Q q⟩
theorem qS (hu:X.A.units+64 < TJ):mr X (Tv .NotEq) (rD X.K ye):=ph fun pins s σ H a b d x y u v I ha hb ru rv hg=>by
 obtain⟨h1,h2⟩:=bH hg;subst h2;rw [PP,PP,Qm] at h1;exact⟨_,rfl,fun Q q=>DG (n:=7) (A:=X.A) I h1.1.1 h1.1.2 h1.2 ha hb ru rv ‹0› X.prog X.w X.xe Q q⟩

def inD (x:D) (ys:List D):Bool:=ys.any fun y=>pyEq y x
def Ls (x y:D):Option D:=match y with
 | .tup ys=>if (pl x && oF ys) && fK 8 x then some (.bl (inD x ys)) else none
 | .lst ys=>if (pl x && oF ys) && fK 8 x then some (.bl (inD x ys)) else none
 | _=>none
def wN (x y:D):Option D:=match y with
 | .tup ys=>if (pl x && oF ys) && fK 8 x then some (.bl (!inD x ys)) else none
 | .lst ys=>if (pl x && oF ys) && fK 8 x then some (.bl (!inD x ys)) else none
 | _=>none
open Classical in
theorem AW {pins:List (S3×Obj)} {σ:St} {H:Hp} {s:Tc} (I:Inv X pins σ H s) {xd:D} {x:V} {u:SY} {A:Tb} (px:pl xd=true) (hd:fK 8 xd=true) (hx:cY X.K H xd x) (ru:RelV x u) (hA:A.units+8 < TJ) {ys:List D} {vs:List V} {its:List SY} (py:oF ys=true) (hy:aZ X.K H ys vs) (rv:Vals vs its) :
  ∃ e:SY->Bool,(∀ y,y∈its.toArray->EqAt A s y u (e y))/\its.toArray.any e=inD xd ys:=by
 let e:SY->Bool:=fun y=>decide (∃ d w,pl d=true/\cY X.K H d w/\RelV w y/\pyEq d xd=true)
 have he:∀ d w y,pl d=true->cY X.K H d w->RelV w y->e y=pyEq d xd:=fun d w y h0 h1 h2=>by
  cases hq:pyEq d xd with
  | true=>exact decide_eq_true ⟨d,w,h0,h1,h2,hq⟩
  | false =>
   refine decide_eq_false ?_;rintro⟨d',w',g0,g1,g2,g3⟩;have ew:=RelV.inj h2 g2;subst ew;rw [Inv.den_inj I h0 g0 h1 g1,g3] at hq;cases hq
 refine⟨e,fun y hy'=>?_,?_⟩
 ·have hm:y∈its:=by simpa using hy'
  obtain⟨j,hj,rfl⟩:=Qn hm;obtain⟨w,e1,r1⟩:=pB rv (j:=j) (by simpa using hj);obtain⟨d,f1,g1⟩:=o9 hy e1;have r1':RelV w its[j]:=by simpa using r1
  have pd:=nV py _ (PJ f1);rw [he d w _ pd g1 r1'];exact Ee I 8 d xd w x _ u A pd px (.inr hd) g1 hx r1' ru hA
 ·unfold inD;have go:∀ (ys:List D) (vs:List V) (its:List SY),oF ys=true->aZ X.K H ys vs->Vals vs its->its.any e=ys.any fun y=>pyEq y xd:=by
   intro ys
   induction ys with
   | nil =>
    intro vs its py h r;rw [cZ] at h;subst h;cases r;rfl
   | cons y ys ih =>
    intro vs its py h r;unfold oF at py;rw [PP] at py;rw [bB] at h;obtain⟨v,r',e1,h1,h2⟩:=h;subst e1;cases r with
    | cons q1 q2=>rw [PZ,PZ,he y v _ py.1 h1 q1,ih _ _ py.2 h2 q2]
  rw [List.any_toArray];exact go ys vs its py hy rv
theorem Id (hu:X.A.units+64 < TJ):mr X (Tv .In) (rD X.K Ls):=ph fun pins s σ H a b d x y u v I ha hb ru rv hg=>by
 cases b with
 | tup ys =>
  obtain⟨h1,h2⟩:=bH hg;subst h2;rw [PP,PP] at h1;rw [cJ] at hb;obtain⟨p,vs,e,g1,g2⟩:=hb;subst e;cases rv;obtain⟨its,r,t,_⟩:=I.tuple (p8.of g1);obtain⟨e,he,ea⟩:=AW (A:=X.A.in1) I h1.1.1 h1.2 ha ru (by rw [in1_units]; omega) h1.1.2 g2 r;exact⟨_,rfl,fun Q q=>SeqAt.in_tupleAt e (show s.heap.IsTuple p its.toArray from t) he (by rw [ea]; exact q)⟩
 | lst ys =>
  obtain⟨h1,h2⟩:=bH hg;subst h2;rw [PP,PP] at h1;rw [cI] at hb;obtain⟨p,vs,e,g1,g2⟩:=hb;subst e;cases rv;obtain⟨its,r,t,_⟩:=I.list g1;obtain⟨e,he,ea⟩:=AW (A:=X.A.in1) I h1.1.1 h1.2 ha ru (by rw [in1_units]; omega) h1.1.2 g2 r;exact⟨_,rfl,fun Q q=>SeqAt.in_listAt e t.isList he (by rw [ea]; exact q)⟩
 | _=>cases hg
theorem Cr (hu:X.A.units+64 < TJ):mr X (Tv .NotIn) (rD X.K wN):=ph fun pins s σ H a b d x y u v I ha hb ru rv hg=>by
 cases b with
 | tup ys =>
  obtain⟨h1,h2⟩:=bH hg;subst h2;rw [PP,PP] at h1;rw [cJ] at hb;obtain⟨p,vs,e,g1,g2⟩:=hb;subst e;cases rv;obtain⟨its,r,t,_⟩:=I.tuple (p8.of g1);obtain⟨e,he,ea⟩:=AW (A:=X.A.in1) I h1.1.1 h1.2 ha ru (by rw [in1_units]; omega) h1.1.2 g2 r;exact⟨_,rfl,fun Q q=>SeqAt.notIn_tupleAt e (show s.heap.IsTuple p its.toArray from t) he (by rw [ea]; exact q)⟩
 | lst ys =>
  obtain⟨h1,h2⟩:=bH hg;subst h2;rw [PP,PP] at h1;rw [cI] at hb;obtain⟨p,vs,e,g1,g2⟩:=hb;subst e;cases rv;obtain⟨its,r,t,_⟩:=I.list g1;obtain⟨e,he,ea⟩:=AW (A:=X.A.in1) I h1.1.1 h1.2 ha ru (by rw [in1_units]; omega) h1.1.2 g2 r;exact⟨_,rfl,fun Q q=>SeqAt.notIn_listAt e t.isList he (by rw [ea]; exact q)⟩
 | _=>cases hg

def HK (p:Int->Int->D) (a b:D):Option D:=match a,b with
 | .int i,.int j=>some (p i j)
 | _,_=>none
def OB:=HK fun i j=>.bl (decide (i < j))
def OX:=HK fun i j=>.bl (decide (i<=j))
def M0:=HK fun i j=>.bl (decide (j < i))
def OH:=HK fun i j=>.bl (decide (j<=i))
theorem vK {K:RL} {g:Int->Int->Bool}:eQ K (Ez fun i j=>.bl (g i j)) (HK fun i j=>.bl (g i j)):=fun a b d x y O H Q hO hg ha hb q=>by
 cases a with
 | int i =>
  cases b with
  | int j=>cases hg; exact⟨i,j,fW.mp ha,fW.mp hb,q _ H (bn.refl H) (lB.mpr rfl)⟩
  | _=>cases hg
 | _=>cases hg

theorem tR {K:RL} {g:Int->Int->Int}:eQ K (Ez fun i j=>.int (g i j)) (HK fun i j=>.int (g i j)):=fun a b d x y O H Q hO hg ha hb q=>by
 cases a with
 | int i =>
  cases b with
  | int j=>cases hg; exact⟨i,j,fW.mp ha,fW.mp hb,q _ H (bn.refl H) (fW.mpr rfl)⟩
  | _=>cases hg
 | _=>cases hg
def JV (c:Int->Int->Bool) (p:Int->Int->Int) (a b:D):Option D:=match a,b with
 | .int i,.int j=>if c i j then some (.int (p i j)) else none
 | _,_=>none
theorem kE {K:RL} {C:Int->Int->Prop} {c:Int->Int->Bool} {g:Int->Int->Int} (hc:∀ i j,c i j=true->C i j):eQ K (rI C fun i j=>.int (g i j)) (JV c g):=fun a b d x y O H Q hO hg ha hb q=>by
 cases a with
 | int i =>
  cases b with
  | int j =>
   obtain⟨h1,h2⟩:=bH hg;subst h2;exact⟨i,j,fW.mp ha,fW.mp hb,hc i j h1,q _ H (bn.refl H) (fW.mpr rfl)⟩
  | _=>cases hg
 | _=>cases hg
def B2:=HK fun i j=>.int (i - j)
def jK:=JV (fun i j=>decide ((-(2 ^ 64) < i/\i < 2 ^ 64)\/(-(2 ^ 64) < j/\j < 2 ^ 64))) (·*·)
def HW (_ j:Int):Prop:=0 < j/\j < 10 ^ 200
theorem bD:mr X (Tu .FloorDiv) (rI HW fun i j=>.int (i / j)):=Kw fun i j _ _ _ _ _ hc q=>by
 have h1:(0:Int) < j:=hc.1;have h2:j < 10 ^ 200:=hc.2;refine PyProof.Rows.floordiv_int ‹0› (by rw [Pl i ‹0›]; exact q) (.inl (PyProof.noPylong_of_log2 ?_));have h3:j.natAbs < 10 ^ 200:=by omega
 rw [Nat.log2_lt ‹0›];exact P5 h3 (by decide +kernel)
def eP:=JV (fun _ j=>decide (0 < j/\j < 10 ^ 200)) (· / ·)
def dD:=JV (fun _ j=>decide (0 < j)) (·%·)
def rC:=JV (fun i j=>decide (0<=j/\j<=1000000/\i.natAbs < 2 ^ 64)) fun i j=>i ^ j.toNat
theorem ug {K:RL}:eQ K (Ez fun i j=>.int (i - j)) B2:=tR
theorem iS {K:RL}:eQ K (rI IY fun i j=>.int (i*j)) jK:=kE fun i j h=>by have q:=of_decide_eq_true h; exact q
theorem cH {K:RL}:eQ K (rI HW fun i j=>.int (i / j)) eP:=kE fun i j h=>by have q:=of_decide_eq_true h; exact q
theorem bI {K:RL}:eQ K (rI (fun _ j=>0 < j) fun i j=>.int (i%j)) dD:=kE fun _ _ h=>of_decide_eq_true h
theorem qw {K:RL}:eQ K (rI J6 fun i j=>.int (i ^ j.toNat)) rC:=kE fun i j h=>by have q:=of_decide_eq_true h; exact q
def K5 (K:RL):R2:=fun x y H Q=>∃ l b xs zs,x=.ref l/\y=.ref b/\oZ K H l xs/\oZ K H b zs/\xs.length+zs.length<=S6/\∀ p,H p=none->Q (.ref p) (upd H p (.lst (xs++zs)))
theorem Gz:mr X (Tu .Add) (K5 X.K):=by
 intro pins s σ H x y v u Q I rx ry h;obtain⟨l,b,xs,zs,rfl,rfl,hH,hB,hz,q⟩:=h;cases rx;cases ry;obtain⟨its,r,t1,_⟩:=I.list hH;obtain⟨its2,r2,t2,_⟩:=I.list hB;obtain⟨⟨c1,d1,dt1,sl1⟩,n1,ho,hc,hd,hdt⟩:=t1;obtain⟨⟨c2,d2,dt2,sl2⟩,n2,ho2,hc2,hd2,hdt2⟩:=t2;simp only at hc hd hdt hc2 hd2 hdt2;subst hc hd hdt hc2 hd2 hdt2;have z1:=r.length;have z2:=r2.length;refine TV ⟨_,ho,rfl⟩ ⟨_,ho2,rfl⟩ noFill_list_add seq_list_add F.slot_list_add F.entry_list_add (F.args_list_add_2 _ _) (PyProof.Rows.list_addW l b its.toArray its2.toArray n1 n2 none none sl1 sl2 (by rw [Pm,Pm]; omega)) ⟨ho,ho2,?_⟩;have ea:its.toArray++its2.toArray=(its++its2).toArray:=by simp
 rw [ea];exact⟨.ref _,_,I.lnew (t':=s.toks) (r.append r2) (by rw [PK]; omega),rfl,q _ I.fresh⟩
def Jp (K:RL):R2:=fun x y H Q=>∃ a b xs ys,x=.ref a/\y=.ref b/\p8 K H a xs/\p8 K H b ys/\xs.length+ys.length<=S6 /\
 (xs=[]->Q (.ref b) H)/\(xs≠[]->ys=[]->Q (.ref a) H)/\(xs≠[]->ys≠[]->∀ p,H p=none->Q (.ref p) (upd H p (.tup (xs++ys))))
theorem E5:mr X (Tu .Add) (Jp X.K):=by
 intro pins s σ H x y v u Q I rx ry h;obtain⟨a,b,xs,ys,ex,ey,ha,hb,hz,q0,q1,q2⟩:=h;by_cases hx:xs=[]
 ·subst ex ey;cases rx;cases ry;obtain⟨its,r1,p1,_⟩:=I.tuple ha;obtain⟨its2,r2,p2,_⟩:=I.tuple hb;obtain⟨⟨cls,dd,data,sl⟩,ho,hc,n,hd⟩:=id p1;obtain⟨⟨cls2,dd2,data2,sl2⟩,ho2,hc2,n2,hd2⟩:=id p2;simp only at hc hd hc2 hd2;subst hc hd hc2 hd2;have e:its=[]:=r1.nil_iff.mpr hx;exact TV ⟨_,ho,rfl⟩ ⟨_,ho2,rfl⟩ TY TZ F.slot_tuple_add F.entry_tuple_add (F.args_tuple_add_2 _ _)
   (PyProof.Rows.tuple_addW0 a b its.toArray its2.toArray n n2 dd dd2 sl sl2 (by rw [e]; rfl)) ⟨ho,ho2,⟨.ref b,H,I,rfl,q0 hx⟩⟩
 ·exact GV pins s σ H x y v u Q I rx ry ⟨a,b,xs,ys,ex,ey,ha,hb,hx,hz,q1 hx,q2 hx⟩
def cj (a b:D):Option D:=match a,b with
 | .int i,.int j=>some (.int (i+j))
 | .str x,.str y=>if small (x.length+y.length) then some (.str (x++y)) else none
 | .lst xs,.lst ys=>if small (xs.length+ys.length) then some (.lst (xs++ys)) else none
 | .tup xs,.tup ys=>if small (xs.length+ys.length) then some (.tup (xs++ys)) else none
 | _,_=>none
theorem bf:mr X (Tu .Add) (rD X.K cj):=by
 intro pins s σ H x y u v Q I rx ry ⟨O,a,b,d,hO,ha,hb,hg,q⟩;cases a with
 | int i =>
  cases b with
  | int j =>
   cases hg;exact Jr pins s σ H x y u v Q I rx ry ⟨i,j,fW.mp ha,fW.mp hb,q _ H (bn.refl H) (fW.mpr rfl)⟩
  | _=>cases hg
 | str i =>
  cases b with
  | str j =>
   obtain⟨h1,h2⟩:=bH hg;subst h2;exact zr pins s σ H x y u v Q I rx ry ⟨i,j,fU.mp ha,fU.mp hb,eN h1,q _ H (bn.refl H) (fU.mpr rfl)⟩
  | _=>cases hg
 | lst xs =>
  cases b with
  | lst ys =>
   obtain⟨h1,h2⟩:=bH hg;subst h2;rw [cI] at ha hb;obtain⟨p,vs,ex,g1,g2⟩:=ha;obtain⟨p',vs',ey,g1',g2'⟩:=hb;refine Gz pins s σ H x y u v Q I rx ry ⟨p,p',vs,vs',ex,ey,(aB H O).seq g1,(aB H O).seq g1',?_,fun r hr=>?_⟩
   ·rw [<- g2.length,<- g2'.length]; exact eN h1
   ·exact q _ _ (bF hr _) (dU hO hr (g2.append g2'))
  | _=>cases hg
 | tup xs =>
  cases b with
  | tup ys =>
   obtain⟨h1,h2⟩:=bH hg;subst h2;have da:=ha;have db:=hb;rw [cJ] at ha hb;obtain⟨p,vs,ex,g1,g2⟩:=ha;obtain⟨p',vs',ey,g1',g2'⟩:=hb;have l1:=g2.length;have l2:=g2'.length;refine E5 pins s σ H x y u v Q I rx ry ⟨p,p',vs,vs',ex,ey,bY (aB H O) g1,bY (aB H O) g1',?_,fun z=>?_,fun z z'=>?_,fun z z' r hr=>?_⟩
   ·rw [<- l1,<- l2]; exact eN h1
   ·have e:xs=[]:=List.length_eq_zero_iff.mp (by rw [l1,z]; rfl);rw [<- ey];refine q _ H (bn.refl H) ?_;rw [e,Qo]; exact db
   ·have e:ys=[]:=List.length_eq_zero_iff.mp (by rw [l2,z']; rfl);rw [<- ex];refine q _ H (bn.refl H) ?_;rw [e,Pw]; exact da
   ·exact q _ _ (bF hr _) (e8 hO hr (g2.append g2'))
  | _=>cases hg
 | _=>cases hg

def aW (a b:D):Option D:=match a,b with
 | .tup xs,.int i=>pT xs i
 | .lst xs,.int i=>pT xs i
 | .str x,.int i=>if small x.length then (pT x.cps.toList i).bind fun c=>some (.str ⟨#[c]⟩) else none
 | _,_=>none
theorem AU {K:RL} {H:Hp} {ds:List D} {vs:List V} {i:Int} {d:D} (h:aZ K H ds vs) (e:pT ds i=some d):∃ v,pT vs i=some v/\cY K H d v:=by
 unfold pT at e ⊢;obtain⟨j,e1,e2⟩:=bind_some e;rw [<- h.length,e1];exact h.get e2
theorem Oc:J2 X (rD X.K aW):=by
 intro value slice pins s σ H x y u v Q I rx ry ⟨O,a,b,d,hO,ha,hb,hg,q⟩ hsub;cases a with
 | tup xs =>
  cases b with
  | int i =>
   rw [cJ] at ha;obtain⟨p,vs,ex,g1,g2⟩:=ha;obtain⟨w,e1,e2⟩:=AU g2 hg;refine Jv value slice pins s σ H x y u v Q I rx ry ?_ hsub; exact⟨p,vs,i,w,ex,fW.mp hb,bY (aB H O) g1,e1,q w H (bn.refl H) e2⟩
  | _=>cases hg
 | lst xs =>
  cases b with
  | int i =>
   rw [cI] at ha;obtain⟨p,vs,ex,g1,g2⟩:=ha;obtain⟨w,e1,e2⟩:=AU g2 hg;refine Hs value slice pins s σ H x y u v Q I rx ry ?_ hsub; exact⟨p,vs,i,w,ex,fW.mp hb,(aB H O).seq g1,e1,q w H (bn.refl H) e2⟩
  | _=>cases hg
 | str z =>
  cases b with
  | int i =>
   have hg':(if small z.length then (pT z.cps.toList i).bind fun c=>some (D.str ⟨#[c]⟩) else none)=some d:=hg;cases hs:small z.length with
   | false=>rw [hs] at hg'; cases hg'
   | true =>
    rw [hs] at hg';obtain⟨c,e1,e2⟩:=bind_some hg';cases e2;refine JT value slice pins s σ H x y u v Q I rx ry ?_ hsub; exact⟨z,i,c,fU.mp ha,fW.mp hb,eN hs,e1,q _ H (bn.refl H) (fU.mpr rfl)⟩
  | _=>cases hg
 | _=>cases hg
theorem Oh {a b:Tf} {fa fb:FX} {pos:Pos} (ha:FE X a fa) (hb:FE X b fb) (hs:wR b):FE X (.Subscript a b pos) (f2 aW fa fb) :=
 PE.weak (Km Oc ha hb hs) (xf av)

def cutD {α:Type} (xs:List α) (lo hi:Option Int):List α:=(xs.drop (HT.sIx xs.length 0 lo)).take (HT.sIx xs.length xs.length hi - HT.sIx xs.length 0 lo)
theorem uD {M:Model} {A:Tb} {E:SY->Tc->Prop} {s:Tc} {t:S3} {items:Array SY} {Q:Bool->Tc->Prop} (ht:SD s.heap t items) (h:Q true s):Te M A (Builtin.Tuple.tupleIsExact (.ref t)) Q E s:=by
 unfold Builtin.Tuple.tupleIsExact;refine Tp (T8 ht.typeIs ?_);exact To h
theorem i5 {prog:S0} {w:SZ} {A:Tb} {E:SY->Tc->Prop} {s:Tc} {t sl:S3} {items:Array SY} {vl vu:SY} {lo hi:Option Int} {Q:SY->Tc->Prop} (ht:SD s.heap t items) (hs:s.heap.IsSliceOf sl vl vu .none) (pl:T2 vl lo) (pu:T2 vu hi)
  (hw:HT.sIx items.size 0 lo=0/\HT.sIx items.size items.size hi=items.size) (h:Q (.ref t) s):Te (model prog w) A (getItem (.ref t) (.ref sl)) Q E s:=by
 obtain⟨os,hos,hcs,hds⟩:=id hs;have hTs:s.TypeIs (.ref sl) "slice":=⟨os,hos,hcs⟩
 unfold getItem
 try with_reducible refine T5 ?_
 first | refine Tp (To ?_) | skip
 refine Tp (wpAny_sequenceKey ht.typeIs (by decide) ?_);refine Tp (T6 (name:=Str.ofString "__getitem__") ht.typeIs Sz
  (T7 Sz ht.typeIs PyProof.Rows.entry_tuple_getitem ?_ (PyProof.Rows.args_tuple_getitem _ _)))
 show Te _ _ (Builtin.Tuple.tupleItemsOf (.ref t) >>= _) _ _ s;refine Tp (PyProof.Rows.tupleItemsOf_ ht ?_);refine Tp (T8 hTs ?_);rw [if_pos (by decide)];refine Tp (HT.qv hs pl pu ?_);have hyes:(((HT.sIx items.size 0 lo:Nat):Int)==0 && (1:Int)==1 && (HT.sIx items.size items.size hi - HT.sIx items.size 0 lo)==items.size)=true:=by
  rw [hw.1,hw.2];simp
 show Te _ _ (if (((HT.sIx items.size 0 lo:Nat):Int)==0 && (1:Int)==1 && (HT.sIx items.size items.size hi - HT.sIx items.size 0 lo)==items.size)=true then _ else _) _ _ s;rw [if_pos hyes];refine Tp (uD ht ?_);rw [if_pos rfl]
 first
  | exact Tp (Uh (To ⟨_,rfl,To h⟩))
  | exact Tp (Uh (Tp (To (To ⟨_,rfl,To h⟩))))
def tH (a:D) (lo hi:Option Int):Option D:=match a with
 | .lst xs=>some (.lst (cutD xs lo hi))
 | .tup xs=>some (.tup (cutD xs lo hi))
 | .str x=>if small x.length then some (.str ⟨(cutD x.cps.toList lo hi).toArray⟩) else none
 | _=>none
theorem HP (v:Option Int) (d n:Nat) (hd:d<=n):(match v with | none=>(d:Int) | some i=>if (1:Int) > 0 then max 0 (min (if i < 0 then i+(n:Int) else i) (n:Int)) else max (-1) (min (if i < 0 then i+(n:Int) else i) ((n:Int) - 1)))=((HT.sIx n d v:Nat):Int):=by
 cases v with
 | none=>rfl
 | some i =>
  show (if (1:Int) > 0 then max 0 (min (if i < 0 then i+(n:Int) else i) (n:Int)) else max (-1) (min (if i < 0 then i+(n:Int) else i) ((n:Int) - 1)))=(((if i < 0 then (i+(n:Int)).toNat else min i.toNat n):Nat):Int)
  rw [if_pos (by decide)];by_cases h:i < 0
  ·rw [if_pos h,if_pos h]; omega
  ·rw [if_neg h,if_neg h]; omega
theorem Ey (lo hi:Option Int) (n:Nat):Builtin.Str.strSliceIndices lo hi 1 n=(List.range (HT.sIx n n hi - HT.sIx n 0 lo)).map fun k=>HT.sIx n 0 lo+k:=by
 have e1:=HP lo 0 n (Pu _);have e2:=HP hi n n (Ph _);have e:Builtin.Str.strSliceIndices lo hi 1 n=sliceRange ((HT.sIx n 0 lo:Nat):Int) ((HT.sIx n n hi:Nat):Int) 1:=by
  rw [<- e1,<- e2];cases lo <;> cases hi <;> rfl
 rw [e];unfold sliceRange;dsimp only;rw [if_pos (by decide:(1:Int) > 0)];have e3:(if ((HT.sIx n 0 lo:Nat):Int) < ((HT.sIx n n hi:Nat):Int) then (((HT.sIx n n hi:Nat):Int) - ((HT.sIx n 0 lo:Nat):Int)+1 - 1) / 1 else 0:Int).toNat=HT.sIx n n hi - HT.sIx n 0 lo:=by
  rw [Int.ediv_one];split <;> omega
 rw [e3];refine Qp fun k _=>?_;omega
theorem Dx {α:Type} (l:List α) (a:Nat):∀ n:Nat,((List.range n).map fun k=>a+k).filterMap (fun i=>l[i]?)=(l.drop a).take n
 | 0=>by simp
 | n+1=>by
  rw [List.range_succ,Qq,List.filterMap_append,Dx l a n,List.take_add_one,List.getElem?_drop];cases e:l[a+n]? <;> simp [e]
theorem Cp (x:Str) (lo hi:Option Int):Txt.slice x lo hi=⟨(cutD x.cps.toList lo hi).toArray⟩:=by
 have hl:x.cps.toList.length=x.length:=by simp [Str.length]
 have pick:(Builtin.Str.strSliceIndices lo hi 1 x.length).filterMap (x.cps[·]?)=cutD x.cps.toList lo hi:=by
  rw [Ey];have q:=Dx x.cps.toList (HT.sIx x.length 0 lo) (HT.sIx x.length x.length hi - HT.sIx x.length 0 lo);unfold cutD;rw [hl,<- q];congr 1;funext i;simp
 unfold Txt.slice;split
 ·rename_i h;have h':(Builtin.Str.strSliceIndices lo hi 1 x.length).length=x.length:=by simpa using h
  rw [Ey,Pr,Qr] at h';have h1:=HT.Ik x.length x.length (Ph _) hi;have z1:HT.sIx x.length 0 lo=0\/x.length=0:=by omega
  have e:cutD x.cps.toList lo hi=x.cps.toList:=by
   unfold cutD;rw [hl,h'];rcases z1 with z1 | z1
   ·rw [z1,Qf,<- hl,Qs]
   ·have:x.cps.toList=[]:=List.length_eq_zero_iff.mp (by rw [hl]; exact z1)
    rw [this]; simp
  rw [e]
 ·rw [pick]
def ND (K:RL):V->Option Int->Option Int->Hp->VK->Prop:=fun x lo hi H Q=>∃ O a d,eL H O/\cY K (hid H O) a x/\tH a lo hi=some d/\∀ v H',bn H H'->cY K (hid H' O) d v->Q v H'
theorem aZ.cut {K:RL} {H:Hp} {ds:List D} {vs:List V} (h:aZ K H ds vs) (lo hi:Option Int):aZ K H (cutD ds lo hi) (yj vs lo hi):=by
 unfold cutD yj;rw [h.length];exact(h.drop _).take _
theorem N0:LI X (ND X.K):=by
 intro pins s σ H x v vl vu lo hi sl Q I rx hs pl pu ⟨O,a,d,hO,ha,hg,q⟩;cases a with
 | lst xs =>
  cases hg;rw [cI] at ha;obtain⟨p,vs,ex,g1,g2⟩:=ha;exact GX pins s σ H x v vl vu lo hi sl Q I rx hs pl pu ⟨p,vs,ex,(aB H O).seq g1,fun r hr=>q _ _ (bF hr _) (dU hO hr (g2.cut lo hi))⟩
 | tup xs =>
  cases hg;have da:=ha;rw [cJ] at ha;obtain⟨p,vs,ex,g1,g2⟩:=ha;by_cases hw:HT.sIx vs.length 0 lo=0/\HT.sIx vs.length vs.length hi=vs.length
  ·subst ex;cases rx;obtain⟨its,r,ht,hz⟩:=I.tuple (bY (aB H O) g1);have hlen:its.toArray.size=vs.length:=(by rw [Pm]; exact r.length.symm);refine⟨"tuple",_,PyProof.Rows.slot_tuple_getitem.lookup,ht.typeIs,i5 ht hs pl pu (by rw [hlen]; exact hw) ⟨.ref p,H,I,rfl,q _ H (bn.refl H) ?_⟩⟩;have e:cutD xs lo hi=xs:=by
    unfold cutD;rw [g2.length,hw.1,hw.2,Qt,Qf,<- g2.length,Qs]
   rw [e]; exact da
  ·exact JM pins s σ H x v vl vu lo hi sl Q I rx hs pl pu ⟨p,vs,ex,bY (aB H O) g1,hw,fun r hr=>q _ _ (bF hr _) (e8 hO hr (g2.cut lo hi))⟩
 | str z =>
  obtain⟨h1,h2⟩:=bH hg;subst h2;rw [fU] at ha;subst ha;obtain⟨t,rfl⟩:=rx;have fin:∀ t' tk,EP X pins σ Q (.str (Txt.slice z lo hi) t') { s with toks:=tk }:=fun t' tk=>by
   rw [Cp];exact⟨.str _,H,I.tok _,⟨_,rfl⟩,q _ H (bn.refl H) (fU.mpr rfl)⟩
  obtain⟨os,hos,hcs,hds⟩:=id hs;have hz:=eN h1;refine⟨"str",_,F.slot_str_getitem.lookup,typeIs_str _ _ _,?_⟩;cases pl with
  | none =>
   cases pu with
   | none=>exact Ui (l:=none) (u:=none) (st:=none) ⟨os,hos,hcs,hds⟩ rfl (Uj ⟨O2 (Txt.slice_le z _ _) hz,fun t' k=>fin t' k⟩)
   | int j tj=>exact Ui (l:=none) (u:=some (j,tj)) (st:=none) ⟨os,hos,hcs,hds⟩ rfl (Uj ⟨O2 (Txt.slice_le z _ _) hz,fun t' k=>fin t' k⟩)
  | int i ti =>
   cases pu with
   | none=>exact Ui (l:=some (i,ti)) (u:=none) (st:=none) ⟨os,hos,hcs,hds⟩ rfl (Uj ⟨O2 (Txt.slice_le z _ _) hz,fun t' k=>fin t' k⟩)
   | int j tj=>exact Ui (l:=some (i,ti)) (u:=some (j,tj)) (st:=none) ⟨os,hos,hcs,hds⟩ rfl (Uj ⟨O2 (Txt.slice_le z _ _) hz,fun t' k=>fin t' k⟩)
 | _=>cases hg
def bj:aq->R (Option Int):=fun _=>.ok none
def Af:D->Option (Option Int)
 | .int i=>some (some i)
 | _=>none
def cE (f:FX):aq->R (Option Int):=fun ρ=>(f ρ).bind fun d=>rO (Af d)
def OS (X:Cx) (F:aq->R (Option Int)):TO:=fun σ H Q=>∃ O ρ,eG X.K O H ρ σ/\jw X σ O H (F ρ) fun o=>∀ H',bn H H'->Q o H'
def FO (X:Cx) (e:Option Tf) (F:aq->R (Option Int)):Prop:=PO X e (OS X F)
theorem LY:FO X none bj:=fun pins s σ H Q I ⟨O,ρ,E,q⟩=>Gk pins s σ H Q I (q H (bn.refl H))
theorem L9 {e:Tf} {f:FX} (h:FE X e f):FO X (some e) (cE f):=fun pins s σ H Q I ⟨O,ρ,E,hF⟩ =>
 Ha h pins s σ H Q I ⟨O,ρ,E,(jw.bind hF).imp fun d hF v H1 s1 d1=>by
  obtain⟨o,e,q⟩:=jw.rO hF;cases d with
  | int i =>
   cases e;exact⟨i,fW.mp d1,q H1 s1⟩
  | _=>cases e⟩
def bK (f:FX) (l h:aq->R (Option Int)):FX:=fun ρ=>(f ρ).bind fun a=>(l ρ).bind fun lo=>(h ρ).bind fun hi=>rO (tH a lo hi)
theorem KY {e:Tf} {f:FX} {l h:aq->R (Option Int)} {lo hi:Option Tf} {p2 pos:Pos} (he:FE X e f) (hl:FO X lo l) (hh:FO X hi h):FE X (.Subscript e (.Slice lo hi none p2) pos) (bK f l h) :=
 PE.weak (Du N0 he hl hh) fun σ H Q ⟨O,ρ,E,hF⟩=>⟨O,ρ,E,(jw.bind hF).imp fun a hF x H1 s1 d1=>⟨O,ρ,E.same s1,((jw.bind hF).mono s1).imp fun lo' hF H2 s2=>⟨O,ρ,E.same (s1.trans s2),((jw.bind hF).mono (s1.trans s2)).imp fun hi' hF H3 s3=>by
  obtain⟨d,e,q⟩:=jw.rO hF;exact⟨O,a,d,E.all.same ((s1.trans s2).trans s3),d1.mono (cf (s2.trans s3)),e,fun v H4 s4 d4=>q v H4 (((s1.trans s2).trans s3).trans s4) d4⟩⟩⟩⟩
end
end TG
namespace TG
open PySem PySem.Spec L2
variable [aX]

def xP (K:RL) (g:List D->Option D):List V->Hp->VK->Prop:=fun xs H Q=>∃ O ds d,eL H O/\aZ K (hid H O) ds xs/\g ds=some d/\∀ v H',bn H H'->cY K (hid H' O) d v->Q v H'
theorem sJ {K:RL} {g:List D->Option D}:Bn K (xP K g) g:=fun ds d xs O H Q hO hg hd q=>⟨O,ds,d,hO,hd,hg,q⟩
section
variable {X:Cx} {x:Str} {p pos:Pos} {e:Tf} {es:List Tf} {id T:String} {g:List D->Option D} {f:aq->R (List D)}
theorem Kn (hc:eA X (.builtin id) (xP X.K g)) (hg:Gl X x) (hm:X.mg x=none) (hv:Ta x=some (.builtin id)) (ha:FA X (e::es) f) (hn:x ≠ "__name__":=by decide) (hdb:(x==("__debug__":Str))=false:=by decide)
  (hns:(e::es).all noStar=true:=by rfl):FE X (.Call (.Name x p) (e::es) [] pos) (fL g f) :=
 PE.weak (xQ hc hg hm hv ha hn hdb (dH (PP _ _ ▸ hns).1) (gB (PP _ _ ▸ hns).2)) (Dq sJ)
theorem JU (hc:eA X (.type T) (xP X.K g)) (hg:Gl X x) (hm:X.mg x=none) (hv:Ta x=some (.type T)) (ha:FA X (e::es) f) (hn:x ≠ "__name__":=by decide) (hdb:(x==("__debug__":Str))=false:=by decide)
  (hns:(e::es).all noStar=true:=by rfl):FE X (.Call (.Name x p) (e::es) [] pos) (fL g f) :=
 PE.weak (v9 hc hg hm hv ha hn hdb (dH (PP _ _ ▸ hns).1) (gB (PP _ _ ▸ hns).2)) (Dq sJ)

def ic:List D->Option D
 | [.lst xs]=>some (.int xs.length)
 | [.tup xs]=>some (.int xs.length)
 | [.str x]=>if small x.length then some (.int x.length) else none
 | _=>none
theorem ce:eA X (.builtin "len") (xP X.K ic):=by
 intro pins s σ H xs us Q I r ⟨O,ds,d,hO,hd,hg,q⟩;unfold ic at hg;split at hg
 ·rename_i ys;cases hg;obtain⟨v,ev,h1⟩:=hd.one;rw [cI] at h1;obtain⟨p,vs,ep,g1,g2⟩:=h1;exact o7 pins s σ H xs us Q I r ⟨p,vs,by rw [ev,ep],.inl ((aB H O).seq g1),q _ H (bn.refl H) (fW.mpr (by rw [g2.length]))⟩
 ·rename_i ys;cases hg;obtain⟨v,ev,h1⟩:=hd.one;rw [cJ] at h1;obtain⟨p,vs,ep,g1,g2⟩:=h1;exact o7 pins s σ H xs us Q I r ⟨p,vs,by rw [ev,ep],.inr (bY (aB H O) g1),q _ H (bn.refl H) (fW.mpr (by rw [g2.length]))⟩
 ·rename_i z;obtain⟨h1,h2⟩:=bH hg;subst h2;obtain⟨v,ev,h1'⟩:=hd.one;exact xA pins s σ H xs us Q I r ⟨z,by rw [ev,fU.mp h1'],eN h1,q _ H (bn.refl H) (fW.mpr rfl)⟩
 ·cases hg
def cQ:List D->Option D
 | [.lst xs]=>some (.tup xs)
 | [.tup xs]=>some (.tup xs)
 | _=>none
theorem cU:eA X (.type "tuple") (xP X.K cQ):=by
 intro pins s σ H xs us Q I r ⟨O,ds,d,hO,hd,hg,q⟩;unfold cQ at hg;split at hg
 ·rename_i ys;cases hg;obtain⟨v,ev,h1⟩:=hd.one;rw [cI] at h1;obtain⟨p,vs,ep,g1,g2⟩:=h1;exact oE pins s σ H xs us Q I r ⟨p,vs,by rw [ev,ep],.inl ⟨(aB H O).seq g1,fun l hl=>q _ _ (bF hl _) (e8 hO hl g2)⟩⟩
 ·rename_i ys;cases hg;obtain⟨v,ev,h1⟩:=hd.one;have h0:=h1;rw [cJ] at h1;obtain⟨p,vs,ep,g1,g2⟩:=h1;rw [ep] at h0;exact oE pins s σ H xs us Q I r ⟨p,vs,by rw [ev,ep],.inr ⟨bY (aB H O) g1,q _ H (bn.refl H) h0⟩⟩
 ·cases hg
def pN:List D->Option D
 | [.lst xs]=>some (.lst xs)
 | [.tup xs]=>some (.lst xs)
 | _=>none
theorem Ax:eA X (.type "list") (xP X.K pN):=by
 intro pins s σ H xs us Q I r ⟨O,ds,d,hO,hd,hg,q⟩;unfold pN at hg;split at hg
 ·rename_i ys;cases hg;obtain⟨v,ev,h1⟩:=hd.one;rw [cI] at h1;obtain⟨p,vs,ep,g1,g2⟩:=h1;exact lZ pins s σ H xs us Q I r ⟨p,vs,by rw [ev,ep],.inl ((aB H O).seq g1),fun l hl=>q _ _ (bF hl _) (dU hO hl g2)⟩
 ·rename_i ys;cases hg;obtain⟨v,ev,h1⟩:=hd.one;rw [cJ] at h1;obtain⟨p,vs,ep,g1,g2⟩:=h1;exact lZ pins s σ H xs us Q I r ⟨p,vs,by rw [ev,ep],.inr (bY (aB H O) g1),fun l hl=>q _ _ (bF hl _) (dU hO hl g2)⟩
 ·cases hg
def sE:List D->Option D
 | [.int i,.int j]=>some (.int (if j > i then j else i))
 | _=>none
def yV:List D->Option D
 | [.int i,.int j]=>some (.int (if j < i then j else i))
 | _=>none
def Bu:List D->Option D
 | [.int i]=>some (.int i)
 | [.bl k]=>some (.int (if k then 1 else 0))
 | _=>none
theorem tS (hc:X.calm=true):eA X (.builtin "max") (xP X.K sE):=by
 intro pins s σ H xs us Q I r ⟨O,ds,d,hO,hd,hg,q⟩;unfold sE at hg;split at hg
 ·rename_i i j;cases hg;obtain⟨v,w,ev,h1,h2⟩:=hd.two;exact B3 hc pins s σ H xs us Q I r ⟨i,j,by rw [ev,fW.mp h1,fW.mp h2],q _ H (bn.refl H) (fW.mpr rfl)⟩
 ·cases hg
theorem zQ (hc:X.calm=true):eA X (.builtin "min") (xP X.K yV):=by
 intro pins s σ H xs us Q I r ⟨O,ds,d,hO,hd,hg,q⟩;unfold yV at hg;split at hg
 ·rename_i i j;cases hg;obtain⟨v,w,ev,h1,h2⟩:=hd.two;exact CH hc pins s σ H xs us Q I r ⟨i,j,by rw [ev,fW.mp h1,fW.mp h2],q _ H (bn.refl H) (fW.mpr rfl)⟩
 ·cases hg
theorem Aj:eA X (.type "int") (xP X.K Bu):=by
 intro pins s σ H xs us Q I r ⟨O,ds,d,hO,hd,hg,q⟩;unfold Bu at hg;split at hg
 ·rename_i i;cases hg;obtain⟨v,ev,h1⟩:=hd.one;exact vi pins s σ H xs us Q I r (.inl ⟨i,by rw [ev,fW.mp h1],q _ H (bn.refl H) (fW.mpr rfl)⟩)
 ·rename_i k;cases hg;obtain⟨v,ev,h1⟩:=hd.one;exact vi pins s σ H xs us Q I r (.inr ⟨k,by rw [ev,lB.mp h1],q _ H (bn.refl H) (fW.mpr rfl)⟩)
 ·cases hg

def HZ:D->String
 | .non => "NoneType"
 | .bl _ => "bool"
 | .int _ => "int"
 | .str _ => "str"
 | .tup _ => "tuple"
 | .lst _ => "list"
 | .dct _ _ => "dict"
 | _ => ""
def GZ (T:String) (d:D):Bool:=match d with
 | .bl _=>T == "bool" || T == "int"
 | .non=>T == "NoneType"
 | .int _=>T == "int"
 | .str _=>T == "str"
 | .tup _=>T == "tuple"
 | .lst _=>T == "list"
 | .dct _ _=>T == "dict"
 | _=>false
def yM (K:RL) (T:String):Prop:=∀ d:D,top d=true->R6 K (.type (HZ d)) (.type T)=some (GZ T d)
def Nx (K:RL) (T:String):List V->Hp->VK->Prop:=fun xs H Q=>∃ O x d,xs=[x,.ty T]/\top d=true/\cY K (hid H O) d x/\Q (.bl (GZ T d)) H
theorem Fv (ok:yM X.K T):eA X (.builtin "isinstance") (Nx X.K T):=by
 intro pins s σ H xs us Q I r ⟨O,x,d,ex,td,hd,q⟩;subst ex;obtain⟨u,w',rfl,rx,rt⟩:=vals2 r;cases rt;have e:=ok d td;have fin:∀ tk,EP X pins σ Q (.bool (GZ T d)) { s with toks:=tk }:=fun tk=>⟨.bl _,H,I.tok _,rfl,q⟩
 cases ga I td (hd.mono (aB H O)) rx with
 | non=>exact R7 PySem.W.kitx_none I.kIn True.intro e (fun z=>nomatch z) fin
 | bl b=>exact R7 PySem.W.kitx_bool I.kIn True.intro e (fun z=>nomatch z) fin
 | int i t=>exact R7 PySem.W.kitx_int I.kIn True.intro e (fun z=>nomatch z) fin
 | str y t=>exact R7 PySem.W.kitx_str I.kIn True.intro e (fun z=>nomatch z) fin
 | tup h rv t =>
  obtain⟨o,h1,h2,_⟩:=t;exact R7 PySem.W.kitx_tuple I.kIn ⟨o,h1,h2⟩ e (fun z=>nomatch z) fin
 | lst h rv t =>
  obtain⟨o,h1,h2,_⟩:=t;exact R7 PySem.W.kitx_list I.kIn ⟨o,h1,h2⟩ e (fun z=>nomatch z) fin
theorem DZ:Ta "isinstance"=some (.builtin "isinstance"):=by first | rfl | decide +kernel
def qt (T:String) (d:D):Option D:=if top d then some (.bl (GZ T d)) else none
def ow (T:String) (f:FX):FX:=f1 (qt T) f
theorem MM {f:FX} {xT:Str} {p2:Pos} (ok:yM X.K T) (hg:Gl X "isinstance") (hm:X.mg "isinstance"=none) (hgT:Gl X xT) (hmT:X.mg xT=none) (hvT:Ta xT=some (.type T)) (he:FE X e f)
  (hn2:xT ≠ "__name__":=by decide) (hd2:(xT==("__debug__":Str))=false:=by decide)
  (hns:noStar e=true:=by rfl) :
  FE X (.Call (.Name "isinstance" p) [e,.Name xT p2] [] pos) (ow T f) :=
 PE.weak (xQ (Fv ok) hg hm DZ (lG he (lG (Hg (v:=.ty T) hgT hmT hvT rfl hn2 hd2) qf (dH rfl)) (dH hns)) (by decide) (by decide) (dH hns) (gB rfl)) fun σ H Q ⟨O,ρ,E,hF⟩=>⟨O,ρ,E,(jw.bind hF).imp fun a hF v H1 s1 d1=>by
  obtain⟨d,e,q⟩:=jw.rO hF;obtain⟨h1,h2⟩:=bH e;subst h2;exact⟨O,v,a,rfl,h1,d1,q _ H1 s1 (lB.mpr rfl)⟩⟩
end

section
variable {X:Cx} {a:Tf} {f:FX} {pos:Pos}
def isNon:D->Bool
 | .non=>true
 | _=>false
def Nb (d:D):Option D:=some (.bl (isNon d))
def Kt (d:D):Option D:=some (.bl (!isNon d))
def MB (f:FX):FX:=f1 Nb f
def KJ (f:FX):FX:=f1 Kt f
theorem Kv (h:FE X a f) (he:∀ whole,isTrue a X.env whole=(do let v <- whole; standAt a.pos; holding [v] (truthy v)):=by intro _; rfl):FT X a (cO f):=PT.weak (Dl h he) fun σ H Q ⟨O,ρ,E,hF⟩=>⟨O,ρ,E,(jw.bind hF).imp fun d hF x H1 s1 d1=>by
 obtain⟨r,hF,q⟩:=jw.rO hF;refine⟨r,?_,q H1 s1⟩;cases d with
 | non=>cases hF; rw [lM.mp d1]; rfl
 | bl b=>cases hF; rw [lB.mp d1]; rfl
 | int i=>cases hF; rw [fW.mp d1]; rfl
 | str y =>
  obtain⟨hz,e⟩:=bH hF;subst e;rw [fU.mp d1];refine⟨eN hz,?_⟩;show (y.length != 0)=((y.length:Int) != 0)
  cases y.length <;> rfl
 | tup xs =>
  cases hF;obtain⟨p,vs,e,g1,g2⟩:=cJ.mp d1;rw [e];refine .inr (.inl ⟨vs,bY (aB H1 O) g1,?_⟩);have l:=g2.length;cases xs <;> cases vs <;> first | rfl | (simp at l)
 | lst xs =>
  cases hF;obtain⟨p,vs,e,g1,g2⟩:=cI.mp d1;rw [e];refine .inl ⟨vs,(aB H1 O).seq g1,?_⟩;have l:=g2.length;cases xs <;> cases vs <;> first | rfl | (simp at l)
 | _=>cases hF⟩
end

def Walk (K:RL) (Hd:Hp) (J:It) (ds:List D):Prop :=
 ∀ (Hn:Hp) (O':List S3) (i:Nat),eL Hn O'->bn Hd (hid Hn O')->(∀ d,ds[i]?=some d->J.go i Hn/\∀ x H2,J.yld i Hn x H2->bn Hn H2/\cY K (hid H2 O') d x)/\(i=ds.length->J.stop i Hn)
def MK (X:Cx) (G:aq->R (List D)):TI:=fun σ H RR=>∃ O ρ,eG X.K O H ρ σ/\jw X σ O H (G ρ) fun ds=>∀ J H1,bn H H1->Walk X.K (hid H1 O) J ds->RR J H1
def FI (X:Cx) (tg iter:Tf) (G:aq->R (List D)):Prop:=PI X tg iter (MK X G)
def pX:D->Option (List D)
 | .lst xs=>some xs
 | .tup xs=>some xs
 | _=>none
def bZ (f:FX):aq->R (List D):=fun ρ=>(f ρ).bind fun d=>rO (pX d)
section
variable {X:Cx} {tg:Tf}
theorem Cq {K:RL} {Hd:Hp} {a:S3} {ds:List D} {vs:List V} (h:oZ K Hd a vs) (g:aZ K Hd ds vs):Walk K Hd (N5 K a) ds:=fun Hn O' i hO s =>
  have s':bn Hd Hn:=s.trans (aB Hn O')
  ⟨fun d e=>by
    obtain⟨v,ev,dv⟩:=g.get e;refine⟨⟨vs,v,s'.seq h,ev⟩,fun x H2 ⟨e2,y⟩=>?_⟩;have q:=y vs (s'.seq h);rw [ev] at q; cases q;subst e2;exact⟨bn.refl _,dv.mono s⟩,
   fun hl=>⟨vs,s'.seq h,by rw [<- g.length]; exact Pt hl.symm⟩⟩
theorem DJ {K:RL} {Hd:Hp} {a:S3} {ds:List D} {vs:List V} (h:Hd a=some (.tup vs)) (g:aZ K Hd ds vs):Walk K Hd (Nf K a) ds:=fun Hn O' i hO s =>
  have s':bn Hd Hn:=s.trans (aB Hn O')
  ⟨fun d e=>by
    obtain⟨v,ev,dv⟩:=g.get e;refine⟨⟨vs,v,bY s' h,ev⟩,fun x H2 ⟨e2,y⟩=>?_⟩;have q:=y vs (bY s' h);rw [ev] at q; cases q;subst e2;exact⟨bn.refl _,dv.mono s⟩,
   fun hl=>⟨vs,bY s' h,by rw [<- g.length]; exact Pt hl.symm⟩⟩
theorem Nc {e:Tf} {f:FX} (h:FE X e f):FI X tg e (bZ f):=by
 intro pins s σ H R I ⟨O,ρ,E,hG⟩;have hG':=jw.bind hG;cases hf:f ρ with
 | error z=>exact Bo h pins s σ H R I ⟨O,ρ,E,by rw [hf] at hG' ⊢; cases z with | none=>exact hG'.elim | some x=>exact hG'⟩
 | ok d =>
  rw [hf] at hG';obtain⟨ds,e1,q⟩:=jw.rO (α:=List D) (o:=pX d) hG';cases d with
  | lst xs =>
   cases e1;refine Bo h pins s σ H R I ⟨O,ρ,E,?_⟩;rw [hf];refine fun v H1 s1 d1=>?_;obtain⟨p,vs,ev,g1,g2⟩:=cI.mp d1;exact⟨p,ev,⟨vs,(aB H1 O).seq g1⟩,q _ H1 s1 (Cq g1 g2)⟩
  | tup xs =>
   cases e1;refine Jl h pins s σ H R I ⟨O,ρ,E,?_⟩;rw [hf];refine fun v H1 s1 d1=>?_;obtain⟨p,vs,ev,g1,g2⟩:=cJ.mp d1;exact⟨p,ev,⟨vs,bY (aB H1 O) g1⟩,q _ H1 s1 (DJ g1 g2)⟩
  | _=>cases e1
def e7 (lo:Int) (n:Nat):List D:=(List.range n).map fun (k:Nat)=>D.int (lo+(k:Int))
theorem uR (lo:Int) (n:Nat):(e7 lo n).length=n:=by unfold e7; rw [Pr,Qr]
theorem uk {K:RL} {Hd:Hp} (lo:Int) (n:Nat):Walk K Hd (Lb lo n) (e7 lo n):=fun Hn O' i hO s =>
  ⟨fun d e=>by
    unfold e7 at e;rw [PF] at e;cases hi:(List.range n)[i]? with
    | none=>rw [hi] at e; cases e
    | some k =>
      rw [hi] at e;cases e;have hlt:i < n:=by
        have:=(List.getElem?_eq_some_iff.mp hi).1
        rwa [Qr] at this
      have ek:k=i:=by
        rw [Qu hlt] at hi;exact(Option.some.inj hi).symm
      subst ek;exact⟨hlt,fun x H2 ⟨e1,e2⟩=>by subst e1; exact⟨bn.refl _,fW.mpr e2⟩⟩,
   fun hl=>by rw [uR] at hl; exact Pt hl.symm⟩
def okR (j:Int):Bool:=decide (-(2 ^ 62)<=j/\j < 2 ^ 62)
def n9:List D->Option (List D)
 | [.int j]=>if okR j then some (e7 0 j.toNat) else none
 | _=>none
def rW:List D->Option (List D)
 | [.int i,.int j]=>if okR i && okR j then some (e7 i (j - i).toNat) else none
 | _=>none
def gl (f:aq->R (List D)):aq->R (List D):=fun ρ=>(f ρ).bind fun ds=>rO (n9 ds)
def sg (f:aq->R (List D)):aq->R (List D):=fun ρ=>(f ρ).bind fun ds=>rO (rW ds)
theorem JY {a:Tf} {f:aq->R (List D)} {p pos:Pos} (hg:Gl X "range") (hm:X.mg "range"=none) (ha:FA X [a] f) (hs:Tg [a] X.env=[(false,eval a X.env)]:=by rfl):FI X tg (.Call (.Name "range" p) [a] [] pos) (gl f):=by
 intro pins s σ H R I ⟨O,ρ,E,hG⟩;refine BV hg hm ha hs pins s σ H R I ⟨O,ρ,E,(jw.bind hG).imp fun es hG' vs H1 s1 d1=>?_⟩;clear hG;obtain⟨ds,hG,q⟩:=jw.rO hG';clear hG';unfold n9 at hG;split at hG
 ·rename_i j;obtain⟨h1,h2⟩:=bH hG;subst h2;obtain⟨j1,j2⟩:=of_decide_eq_true h1;obtain⟨v,ev,dv⟩:=d1.one;exact⟨j,by rw [ev,fW.mp dv],j1,j2,q _ H1 s1 (uk 0 _)⟩
 ·cases hG
theorem JZ {a b:Tf} {f:aq->R (List D)} {p pos:Pos} (hg:Gl X "range") (hm:X.mg "range"=none) (ha:FA X [a,b] f) (hs:Tg [a,b] X.env=[(false,eval a X.env),(false,eval b X.env)]:=by rfl) (hs2:Tg [b] X.env=[(false,eval b X.env)]:=by rfl):FI X tg (.Call (.Name "range" p) [a,b] [] pos) (sg f):=by
 intro pins s σ H R I ⟨O,ρ,E,hG⟩;refine CP hg hm ha hs hs2 pins s σ H R I ⟨O,ρ,E,(jw.bind hG).imp fun es hG' vs H1 s1 d1=>?_⟩;clear hG;obtain⟨ds,hG,q⟩:=jw.rO hG';clear hG';unfold rW at hG;split at hG
 ·rename_i i j;obtain⟨h1,h2⟩:=bH hG;subst h2;rw [PP] at h1;obtain⟨i1,i2⟩:=of_decide_eq_true h1.1;obtain⟨j1,j2⟩:=of_decide_eq_true h1.2;obtain⟨v,w,ev,dv,dw⟩:=d1.two;exact⟨i,j,by rw [ev,fW.mp dv,fW.mp dw],⟨i1,i2,j1,j2⟩,q _ H1 s1 (uk i _)⟩
 ·cases hG
end

abbrev GF:=D->aq->Option aq
def Mh (K:RL) (g:GF):TG:=fun v σ H Q=>∃ O ρ d ρ',eG K O H ρ σ/\cY K (hid H O) d v/\g d ρ=some ρ'/\∀ σ',eG K O H ρ' σ'->(∀ (i:Nat) x,ρ'[i]?=some (some x)->(∀ d,x≠.val d)->σ'[i]?=σ[i]?/\ρ[i]?=some (some x))->Q σ' H
def FG (X:Cx) (tg:Tf) (g:GF):Prop:=PG X tg (Mh X.K g)
def setV (i:Nat) (d:D) (ρ:aq):aq:=ρ.set i (some (.val d))
theorem bh {α:Type} {l:List α} {i j:Nat} {a b:α} (h:(l.set i a)[j]?=some b):(j=i/\b=a)\/(j≠i/\l[j]?=some b):=by
 by_cases e:j=i
 ·subst e;left;have hj:j < (l.set j a).length:=(List.getElem?_eq_some_iff.mp h).1;rw [List.length_set] at hj;rw [O9 hj] at h;exact⟨rfl,(Option.some.inj h).symm⟩
 ·right;rw [Pa (Ne.symm e)] at h;exact⟨e,h⟩
theorem eG.setV {K:RL} {O:List S3} {H:Hp} {ρ:aq} {σ:St} (E:eG K O H ρ σ) {i:Nat} {d:D} {v:V} (hi:i < σ.length) (hd:cY K (hid H O) d v):eG K O H (setV i d ρ) (σ.set i (some v)) :=
  ⟨fun j d' e=>by
    rcases bh e with ⟨hj,eq⟩ | ⟨ne,eq⟩
    · cases eq; rw [hj]; exact⟨v,O9 hi,hd⟩
    · obtain⟨w,e1,e2⟩:=E.val j d' eq
      exact⟨w,by rw [Pa (Ne.symm ne)]; exact e1,e2⟩,
   fun j xs e=>by
    rcases bh e with ⟨_,eq⟩ | ⟨ne,eq⟩
    · cases eq
    · obtain⟨a,e1,e2⟩:=E.own j xs eq
      exact⟨a,by rw [Pa (Ne.symm ne)]; exact e1,e2⟩,
   fun j k xs ys a e1 e2 e3 e4=>by
    rcases bh e1 with ⟨_,q1⟩ | ⟨ne1,q1⟩
    · cases q1
    · rcases bh e2 with ⟨_,q2⟩ | ⟨ne2,q2⟩
      · cases q2
      · rw [Pa (Ne.symm ne1)] at e3
        rw [Pa (Ne.symm ne2)] at e4;exact E.one j k xs ys a q1 q2 e3 e4,E.all⟩
section
variable {X:Cx} {pos:Pos}
def gN (i:Nat):GF:=fun d ρ=>some (setV i d ρ)
theorem L5 {i:Nat} {x:Str} (hN:X.N.Nodup) (hi:X.N[i]?=some x) (hx:Loc X.env.scope x) (hf:X.fn x=true\/X.env.scope.names.lookup x=some .local:=by first | exact .inl rfl | exact .inr rfl | assumption):FG X (.Name x pos) (gN i):=by
 intro pins s σ H v u Q I r ⟨O,ρ,d,ρ',E,hd,hg,q⟩;cases hg;have hiσ:i < σ.length:=by rw [I.len]; exact(List.getElem?_eq_some_iff.mp hi).1
 refine Hq hN hi hx hf pins s σ H v u Q I r (q _ (E.setV hiσ hd) fun j x e nv=>?_);rcases bh e with ⟨_,eq⟩ | ⟨ne,eq⟩
 ·cases eq; exact absurd rfl (nv _)
 ·exact⟨Pa (Ne.symm ne),eq⟩
abbrev Dj:=List D->aq->Option aq
def MU (K:RL) (g:Dj):HG:=fun vs σ H Q=>∃ O ρ ds ρ',eG K O H ρ σ/\aZ K (hid H O) ds vs/\g ds ρ=some ρ'/\∀ σ',eG K O H ρ' σ'->(∀ (i:Nat) x,ρ'[i]?=some (some x)->(∀ d,x≠.val d)->σ'[i]?=σ[i]?/\ρ[i]?=some (some x))->Q σ' H
def Kz (X:Cx) (ts:List Tf) (g:Dj):Prop:=KP X ts (MU X.K g)
def Ft:Dj:=fun ds ρ=>match ds with
 | []=>some ρ
 | _=>none
def zN (g:GF) (h:Dj):Dj:=fun ds ρ=>match ds with
 | d::r=>(g d ρ).bind fun ρ1=>h r ρ1
 | _=>none
theorem Lx:Kz X [] Ft:=by
 intro pins s σ H vs us Q I r ⟨O,ρ,ds,ρ',E,hd,hg,q⟩;cases ds with
 | nil =>
  cases hg;rw [cZ] at hd;exact FH pins s σ H vs us Q I r ⟨hd,q _ E fun i x e _=>⟨rfl,e⟩⟩
 | cons _ _=>cases hg
theorem Lj {e:Tf} {es:List Tf} {g:GF} {h:Dj} (h1:FG X e g) (h2:Kz X es h) (hs:(assignEach (e::es) X.env).map (·.2)=assign e X.env::(assignEach es X.env).map (·.2):=by rfl):Kz X (e::es) (zN g h):=by
 intro pins s σ H vs us Q I r ⟨O,ρ,ds,ρ',E,hd,hg,q⟩;cases ds with
 | nil=>cases hg
 | cons d ds =>
  obtain⟨ρ1,e1,e2⟩:=bind_some hg;rw [bB] at hd;obtain⟨v,vr,ev,d1,d2⟩:=hd;exact D9 h1 h2 hs pins s σ H vs us Q I r ⟨v,vr,ev,O,ρ,d,ρ1,E,d1,e1,fun σ1 E1 k1=>⟨O,ρ1,ds,ρ',E1,d2,e2,fun σ2 E2 k2=>q σ2 E2 fun i x e nv=>by
   obtain⟨a1,a2⟩:=k2 i x e nv;obtain⟨b1,b2⟩:=k1 i x a2 nv;exact⟨a1.trans b1,b2⟩⟩⟩
def gT (n:Nat) (g:Dj):GF:=fun d ρ=>match d with
 | .tup xs=>if xs.length=n then g xs ρ else none
 | _=>none
theorem N3 {es:List Tf} {k:Nat} {g:Dj} {n:Nat} (hc:X.calm=true) (h:Kz X es g) (hn:(assignEach es X.env).length=n:=by rfl) (hst:(assignEach es X.env).findIdx? (·.1)=none:=by rfl):FG X (.Tuple es k pos) (gT n g):=by
 intro pins s σ H v u Q I r ⟨O,ρ,d,ρ',E,hd,hg,q⟩;cases d with
 | tup xs =>
  obtain⟨p,vs,ev,g1,g2⟩:=cJ.mp hd;have hg':(if xs.length=n then g xs ρ else none)=some ρ':=hg;by_cases hl:xs.length=n
  ·rw [if_pos hl] at hg';exact Ju hc h hn hst pins s σ H v u Q I r ⟨p,vs,ev,bY (aB H O) g1,by rw [<- g2.length]; exact hl,O,ρ,xs,ρ',E,g2,hg',q⟩
  ·rw [if_neg hl] at hg'; cases hg'
 | _=>cases hg
end

def Ci {α:Type} (r:R α):R α:=match r with
 | .ok a=>.ok a
 | .error _=>un
theorem D4 {α:Type} {r:R α} {a:α} (h:Ci r=.ok a):r=.ok a:=by
 cases r with
 | ok b=>exact h
 | error z=>cases h
def inB (ix:List (Option Nat)) (ρ:aq):aq:=ix.map fun o=>match o with
 | some i=>match ρ[i]? with
  | some (some (.val d))=>some (.val d)
  | _=>none
 | none=>none
def A0 (ρ:aq) (g:GF) (C:aq->R Bool) (Fe:FX):List D->R (List D)
 | []=>.ok []
 | d::ds=>(rO (g d ρ)).bind fun ρ1=>(Ci (C ρ1)).bind fun c=>if c then (Ci (Fe ρ1)).bind fun v=>(A0 ρ g C Fe ds).bind fun r=>.ok (v::r) else A0 ρ g C Fe ds
theorem mQ (ρ:aq) (g:GF) (C:aq->R Bool) (Fe:FX) (d:D) (ds:List D):A0 ρ g C Fe (d::ds)=(rO (g d ρ)).bind fun ρ1=>(Ci (C ρ1)).bind fun c=>if c then (Ci (Fe ρ1)).bind fun v=>(A0 ρ g C Fe ds).bind fun r=>.ok (v::r) else A0 ρ g C Fe ds:=rfl
def kP (ix:List (Option Nat)) (G:aq->R (List D)) (g:GF) (C:aq->R Bool) (Fe:FX):FX:=fun ρ=>(G ρ).bind fun ds=>if small ds.length then Ci ((A0 (inB ix ρ) g C Fe ds).bind fun r=>.ok (.lst r)) else un
def Ml (X:Cx) (ifs:List Tf) (F:aq->R Bool):Prop:=JC X ifs (L6 X F)
def dZ:aq->R Bool:=fun _=>.ok true
theorem Mi {X:Cx}:Ml X [] dZ:=fun pins s σ H Q I ⟨O,ρ,E,q⟩=>Hk pins s σ H Q I (q H (bn.refl H))
theorem LA {X:Cx} {c:Tf} {F:aq->R Bool} (h:FT X c F):Ml X [c] F:=Gr h
theorem pq {ix:List (Option Nat)} {ρ:aq} {j:Nat} {x:S} (e:(inB ix ρ)[j]?=some (some x)):∃ i d,ix[j]?=some (some i)/\ρ[i]?=some (some (.val d))/\x=.val d:=by
 unfold inB at e;rw [PF] at e;cases q:ix[j]? with
 | none=>rw [q] at e; cases e
 | some o =>
  rw [q] at e;cases o with
  | none=>cases e
  | some i =>
   have e':(match ρ[i]? with | some (some (.val d))=>some (S.val d) | _=>none)=some x:=Option.some.inj e;split at e'
   ·rename_i d hd;cases e';exact⟨i,d,rfl,hd,rfl⟩
   ·cases e'
theorem FZ {K:RL} {O:List S3} {H:Hp} {ρ:aq} {σ:St} (ix:List (Option Nat)) (E:eG K O H ρ σ):eG K O H (inB ix ρ) (inBlock ix σ):=by
 refine⟨fun j d e=>?_,fun j xs e=>?_,fun j k xs ys a e=>?_,E.all⟩
 ·obtain⟨i,d',q1,q2,q3⟩:=pq e;cases q3;obtain⟨v,e1,e2⟩:=E.val i d q2;refine⟨v,?_,e2⟩;unfold inBlock;rw [PF,q1];show some ((σ[i]?).getD none)=some (some v);rw [e1]; rfl
 ·obtain⟨_,_,_,_,q3⟩:=pq e;cases q3
 ·obtain⟨_,_,_,_,q3⟩:=pq e;cases q3
theorem tL {H:Hp} {O:List S3} {p:S3} {o:HO} (hp:H p=none):bn (hid H O) (hid (upd H p o) (p::O)):=fun b u h=>by
 unfold hid at h ⊢;by_cases hb:b∈O
 ·rw [if_pos hb] at h; cases h
 ·rw [if_neg hb] at h;have ne:=bc h hp;rw [if_neg (by intro z; rcases List.mem_cons.mp z with z | z; exact ne z; exact hb z),aE ne]; exact h
theorem eG.hideNew {K:RL} {O:List S3} {H:Hp} {ρ:aq} {σ:St} {p:S3} {o:HO} (m:tx o) (E:eG K O H ρ σ) (hp:H p=none):eG K (p::O) (upd H p o) ρ σ:=by
 have s:bn (hid H O) (hid (upd H p o) (p::O)):=tL hp;refine⟨fun i d e=>let ⟨v,a,b⟩:=E.val i d e; ⟨v,a,b.mono s⟩,fun i xs e=>?_,E.one,(E.all.same (bF hp o)).cons aQ m⟩;obtain⟨a,e1,e2,e3⟩:=E.own i xs e;obtain⟨u,hu⟩:=e3.some;exact⟨a,e1,O7 _ e2,e3.mono (by rw [aE (bc hu hp)]) s⟩
theorem eG.rewrite {K:RL} {O:List S3} {H:Hp} {ρ:aq} {σ:St} {p:S3} {o:HO} (m:tx o) (E:eG K O H ρ σ) (hp:p∈O) (hs:∀ (i:Nat) xs,ρ[i]?=some (some (.own xs))->σ[i]?≠some (some (.ref p))):eG K O (upd H p o) ρ σ:=by
 have s:bn (hid H O) (hid (upd H p o) O):=iw hp;refine⟨fun i d e=>let ⟨v,a,b⟩:=E.val i d e; ⟨v,a,b.mono s⟩,fun i xs e=>?_,E.one,E.all.upd hp m⟩;obtain⟨a,e1,e2,e3⟩:=E.own i xs e;have ne:a≠p:=fun z=>hs i xs e (by rw [<- z]; exact e1);exact⟨a,e1,e2,e3.mono (by rw [aE ne]) s⟩
theorem eG.forget {K:RL} {O:List S3} {H:Hp} {ρ ρ':aq} {σ:St} (E:eG K O H ρ σ) (h:∀ (i:Nat) x,ρ'[i]?=some (some x)->ρ[i]?=some (some x)):eG K O H ρ' σ :=
 ⟨fun i d e=>E.val i d (h i _ e),fun i xs e=>E.own i xs (h i _ e),fun i j xs ys a e1 e2=>E.one i j xs ys a (h i _ e1) (h j _ e2),E.all⟩

def Fills (ρ:aq) (g:GF):Prop:=∀ d ρ1,g d ρ=some ρ1->∀ (i:Nat) x,ρ[i]?=some (some x)->ρ1[i]?=some (some x)
theorem wu (ix:List (Option Nat)) (ρ:aq):∀ (i:Nat) xs,(inB ix ρ)[i]?≠some (some (.own xs)):=by
 intro j xs e;obtain⟨_,_,_,_,q3⟩:=pq e;cases q3
theorem Kf {α:Type} {o:Option α} {a:α} (h:rO o=.ok a):o=some a:=by
 cases o with
 | none=>cases h
 | some b=>cases h; rfl

end TG
namespace TG
open PySem PySem.Spec L2
variable [aX]

section
variable {X:Cx} {elt tg iter:Tf} {ifs:List Tf} {scope:Td} {pos:Pos} {N:List Str} {ix:List (Option Nat)} {G:aq->R (List D)} {g:GF} {C:aq->R Bool} {Fe:FX}
structure rG (ix:List (Option Nat)) (g:GF):Prop where
 fill:∀ ρ,Fills (inB ix ρ) g
 own:∀ ρ d ρ1,g d (inB ix ρ)=some ρ1->∀ (i:Nat) xs,ρ1[i]?≠some (some (.own xs))
theorem yw {ρ:aq} {i:Nat} (h:ix[i]?=some none):∀ x,(inB ix ρ)[i]?≠some (some x):=fun x e=>by
 obtain⟨_,_,q,_⟩:=pq e;rw [h] at q; cases q
theorem eB {i:Nat} (h:ix[i]?=some none):rG ix (gN i) :=
  ⟨fun ρ d ρ1 e j x q=>by
    cases e;by_cases z:j=i
    · subst z; exact absurd q (yw h x)
    · unfold setV; rw [Pa (Ne.symm z)]; exact q,
   fun ρ d ρ1 e j xs q=>by
    cases e;rcases bh q with ⟨_,z⟩ | ⟨_,z⟩
    · cases z
    · exact wu ix ρ j xs z⟩
def FK (ix:List (Option Nat)) (is:List Nat):Bool:=is.all fun i=>match ix[i]? with
 | some none=>true
 | _=>false
def uB:List Nat->Dj
 | []=>Ft
 | i::is=>zN (gN i) (uB is)
theorem BC:∀ (is:List Nat) (ds:List D) (ρ ρ1:aq),uB is ds ρ=some ρ1->∀ (k:Nat) (x:S),ρ1[k]?=some (some x)->(k∈is/\∃ d,x=.val d)\/ρ[k]?=some (some x)
 | [],ds,ρ,ρ1,h,k,x,e=>by
  cases ds with
  | nil=>cases h; exact .inr e
  | cons _ _=>cases h
 | i::is,ds,ρ,ρ1,h,k,x,e=>by
  cases ds with
  | nil=>cases h
  | cons d ds =>
   rcases BC is ds (setV i d ρ) ρ1 h k x e with ⟨a,b⟩ | q
   ·exact .inl ⟨O7 _ a,b⟩
   ·rcases bh q with ⟨z,w⟩ | ⟨_,w⟩
    ·exact .inl ⟨by rw [z]; exact O6,d,Option.some.inj w⟩
    ·exact .inr w
theorem xX:∀ (is:List Nat) (ds:List D) (ρ ρ1:aq),uB is ds ρ=some ρ1->∀ (k:Nat) (x:S),k∉is->ρ[k]?=some (some x)->ρ1[k]?=some (some x)
 | [],ds,ρ,ρ1,h,k,x,_,e=>by
  cases ds with
  | nil=>cases h; exact e
  | cons _ _=>cases h
 | i::is,ds,ρ,ρ1,h,k,x,n,e=>by
  cases ds with
  | nil=>cases h
  | cons d ds =>
   refine xX is ds (setV i d ρ) ρ1 h k x (fun z=>n (O7 _ z)) ?_;unfold setV;rw [Pa (fun z=>n (by rw [z]; exact O6))]; exact e
theorem oW {is:List Nat} {n:Nat} (h:FK ix is=true):rG ix (gT n (uB is)):=by
 have hn:∀ i∈is,ix[i]?=some none:=fun i hi=>by
  have:=List.all_eq_true.mp h i hi
  cases e:ix[i]? with
  | none=>rw [e] at this; cases this
  | some o=>cases o with
   | none=>rfl
   | some _=>rw [e] at this; cases this
 have shape:∀ ρ d ρ1,gT n (uB is) d ρ=some ρ1->∃ ds,uB is ds ρ=some ρ1:=fun ρ d ρ1 e=>by
  cases d with
  | tup xs =>
   have e':(if xs.length=n then uB is xs ρ else none)=some ρ1:=e;by_cases hl:xs.length=n
   ·rw [if_pos hl] at e'; exact⟨xs,e'⟩
   ·rw [if_neg hl] at e'; cases e'
  | _=>cases e
 refine⟨fun ρ d ρ1 e k x q=>?_,fun ρ d ρ1 e k xs q=>?_⟩
 ·obtain⟨ds,e⟩:=shape _ d ρ1 e;exact xX is ds _ ρ1 e k x (fun z=>yw (hn k z) x q) q
 ·obtain⟨ds,e⟩:=shape _ d ρ1 e;rcases BC is ds _ ρ1 e k _ q with ⟨_,d,z⟩ | z
  ·cases z
  ·exact wu ix ρ k xs z
structure jc (X:Cx) (scope:Td) (N:List Str) (ix:List (Option Nat)):Prop where
 cell:∀ y∈scope.names,y.2≠.cell
 kind:scope.kind=.function
 names:∀ y∈scope.names,y.2=.local->scope.names.lookup y.1=some .local
 free:∀ y∈scope.names,y.2=.free->X.env.scope.names.lookup y.1=some .cell\/X.env.scope.names.lookup y.1=some .free
 ix:xH X.N N scope.names ix=true
def AZ (XS:List (Str×TR)) (XN:List Str) (scope:Td) (N:List Str) (ix:List (Option Nat)):Bool :=
 scope.names.all (fun y=>decide (y.2≠.cell)) && decide (scope.kind=.function) && scope.names.all (fun y=>decide (y.2≠.local) || decide (scope.names.lookup y.1=some .local)) &&
  scope.names.all (fun y=>decide (y.2≠.free) || (decide (XS.lookup y.1=some .cell) || decide (XS.lookup y.1=some .free))) && xH XN N scope.names ix
theorem jc.of (h:AZ X.env.scope.names X.N scope N ix=true):jc X scope N ix:=by
 unfold AZ at h;simp only [PP] at h;obtain⟨⟨⟨⟨h1,h2⟩,h3⟩,h4⟩,h5⟩:=h;refine⟨fun y hy=>of_decide_eq_true (List.all_eq_true.mp h1 y hy),of_decide_eq_true h2,fun y hy e=>?_,fun y hy e=>?_,h5⟩
 ·rcases Qm _ _ ▸ List.all_eq_true.mp h3 y hy with q | q
  ·exact absurd e (of_decide_eq_true q)
  ·exact of_decide_eq_true q
 ·rcases Qm _ _ ▸ List.all_eq_true.mp h4 y hy with q | q
  ·exact absurd e (of_decide_eq_true q)
  ·rcases Qm _ _ ▸ q with q | q
   ·exact .inl (of_decide_eq_true q)
   ·exact .inr (of_decide_eq_true q)
def JX (X:Cx) (scope:Td) (N:List Str) (tg elt:Tf) (ifs:List Tf) (g:GF) (C:aq->R Bool) (Fe:FX):Prop :=
 ∀ cl C' fp s H E,FG (cS X scope N cl C' fp s H E) tg g/\Ml (cS X scope N cl C' fp s H E) ifs C/\FE (cS X scope N cl C' fp s H E) elt Fe
def JP (K:RL) (F:aq->R Bool):TT:=fun σ H Q=>∃ O ρ b,eG K O H ρ σ/\F ρ=.ok b/\∀ H',bn H H'->Q b H'
def M3 (K:RL) (F:FX):TE:=fun σ H Q=>∃ O ρ d,eG K O H ρ σ/\F ρ=.ok d/\∀ v H',bn H H'->cY K (hid H' O) d v->Q v H'
theorem JX.k (hb:JX X scope N tg elt ifs g C Fe):∀ cl C' fp s H E,PG (cS X scope N cl C' fp s H E) tg (Mh X.K g)/\JC (cS X scope N cl C' fp s H E) ifs (JP X.K C)/\PE (cS X scope N cl C' fp s H E) elt (M3 X.K Fe):=fun cl C' fp s H E=>by
 obtain⟨h1,h2,h3⟩:=hb cl C' fp s H E;refine⟨h1,fun pins s σ H Q I ⟨O,ρ,b,e1,e2,q⟩=>h2 pins s σ H Q I ⟨O,ρ,e1,by rw [e2]; exact q⟩,fun pins s σ H Q I ⟨O,ρ,d,e1,e2,q⟩=>h3 pins s σ H Q I ⟨O,ρ,e1,by rw [e2]; exact q⟩⟩
def MG (X:Cx) (F:FX):TE:=fun σ H Q=>∃ O ρ,eG X.K O H ρ σ/\jw X σ O H (F ρ) fun d=>∀ D H' total acc,d=.lst total->bn H H'->H D=none->H' D=some (.lst acc)->aZ X.K (hid H' (D::O)) total acc->Q (.ref D) H'
theorem Mr {F:FX}:∀ σ H Q,tF X F σ H Q->MG X F σ H Q:=fun σ H Q ⟨O,ρ,E,hF⟩=>⟨O,ρ,E,hF.imp fun d q D H' total acc e sm hD hD' dn=>by
 subst e;have DO:D∉O:=E.all.not hD;exact q _ H' sm (cI.mpr ⟨D,acc,rfl,oZ.of (by rw [jV DO]; exact hD'),dn.mono (iI fun a ha=>O7 _ ha)⟩)⟩
theorem DH (tk:rG ix g):∀ σ H Q,MG X (kP ix G g C Fe) σ H Q->Mf (MK X G) (Mh X.K g) (JP X.K C) (M3 X.K Fe) ix σ H Q:=fun σ H Q ⟨O,ρ,E,hF⟩=>by
 refine⟨O,ρ,E,(jw.bind hF).imp fun ds hF=>?_⟩;have hz:small ds.length=true:=by
  cases e:small ds.length with
  | true=>rfl
  | false=>rw [e] at hF; exact hF.elim
 rw [hz,if_pos rfl] at hF;cases hL:A0 (inB ix ρ) g C Fe ds with
 | error z=>rw [hL] at hF; exact hF.elim
 | ok total =>
 rw [hL] at hF;have q:∀ D H' total' acc,TG.D.lst total=.lst total'->bn H H'->H D=none->H' D=some (.lst acc)->aZ X.K (hid H' (D::O)) total' acc->Q (.ref D) H':=hF;have e2:=hL;have hfill:=tk.fill;have hown:=tk.own;refine fun J H1 s1 wk D hD=>?_;have E1:eG X.K (D::O) (upd H1 D (.lst [])) (inB ix ρ) (inBlock ix σ):=((FZ ix E).same s1).hideNew trivial hD;have DO:D∉O:=(E.all.same s1).not hD;refine⟨fun i m σ' H'=>m=ds.length - i/\i<=ds.length/\bn H1 H'/\eG X.K (D::O) H' (inB ix ρ) σ'/\∃ acc dn rest,H' D=some (.lst acc)/\acc.length<=i/\aZ X.K (hid H' (D::O)) dn acc/\A0 (inB ix ρ) g C Fe (ds.drop i)=.ok rest/\dn++rest=total,
  ⟨ds.length,by rw [Qt],Pu _,bF hD _,E1,[],[],total,aQ,Ph _,cZ.mpr rfl,by rw [Qf]; exact e2,rfl⟩,?_⟩
 rintro i m σ' H' ⟨rfl,hi,sm,E',acc,dn,rest,hacc,hlen,hdn,hrest,htot⟩;have sH:bn (hid H1 O) (hid H' (D::O)):=fun b o h=>by
  have h2:=sm b o (aB H1 O b o h);unfold hid at h ⊢;by_cases hb:b∈O
  ·rw [if_pos hb] at h; cases h
  ·rw [if_neg hb] at h;have ne:b≠D:=bc h hD;rw [if_neg (by intro z; rcases List.mem_cons.mp z with z | z; exact ne z; exact hb z)]; exact h2
 by_cases hlt:i < ds.length
 ·right;obtain⟨go,yl⟩:=(wk H' (D::O) i E'.all sH).1 ds[i] (by simp [hlt]);refine⟨go,fun x H2 y=>?_⟩;obtain⟨s2,dx'⟩:=yl x H2 y;have E':=E'.same s2;have sm:=sm.trans s2;have hacc:=s2 _ _ hacc;have hdn:=hdn.mono (cf s2);rw [Qv hlt,mQ] at hrest;obtain⟨ρ1,g1,hrest⟩:=rR hrest;have g1:=Kf g1;obtain⟨c,c1,hrest⟩:=rR hrest;have c1:=D4 c1;refine⟨D::O,inB ix ρ,ds[i],ρ1,E',dx',g1,fun σ3 E3 _=>?_⟩;refine⟨D::O,ρ1,c,E3,c1,fun H4 s4=>?_⟩;have E4:=E3.same s4;have back:∀ {H5:Hp},eG X.K (D::O) H5 ρ1 σ3->eG X.K (D::O) H5 (inB ix ρ) σ3:=fun z=>z.forget fun j x e=>hfill ρ _ _ g1 j x e;cases c with
  | true =>
   refine FL ?_;rw [if_pos rfl] at hrest;obtain⟨v,v1,hrest⟩:=rR hrest;have v1:=D4 v1;obtain⟨r,r1,hrest⟩:=rR hrest;cases hrest;refine⟨D::O,ρ1,v,E4,v1,fun w H5 s5 dw=>?_⟩;have s45:=s4.trans s5;have ha5:H5 D=some (.lst acc):=s45 _ _ hacc;have hzl:ds.length < S6:=Qw (of_decide_eq_true hz) (by decide);refine⟨acc,ha5,by omega,ds.length - (i+1),by omega,rfl,hlt,?_,?_,acc++[w],dn++[v],r,aQ,by rw [PK,PR]; omega,?_,r1,by rw [Qx]; exact htot⟩
   ·intro b o h;rw [aE (bc h hD)]; exact s45 _ _ (sm _ _ h)
   ·exact back ((E3.same s45).rewrite trivial O6 fun j xs e=>absurd e (hown ρ _ _ g1 j xs))
   ·have s6:bn (hid H5 (D::O)) (hid (upd H5 D (.lst (acc++[w]))) (D::O)):=iw O6;exact(hdn.mono ((cf s45).trans s6)).snoc (dw.mono s6)
  | false =>
   refine Gx ?_;rw [if_neg Pn] at hrest;exact⟨ds.length - (i+1),by omega,rfl,hlt,sm.trans s4,back E4,acc,dn,rest,s4 _ _ hacc,by omega,hdn.mono (cf s4),hrest,htot⟩
 ·left;have ei:i=ds.length:=by omega
  subst ei;refine⟨(wk H' (D::O) ds.length E'.all sH).2 rfl,?_⟩;rw [Qy] at hrest;cases hrest;rw [Pw] at htot;subst htot;exact q D H' _ acc rfl (s1.trans sm) (s1.free hD) hacc hdn
theorem HM (tk:rG ix g):∀ σ H Q,tF X (kP ix G g C Fe) σ H Q->Mf (MK X G) (Mh X.K g) (JP X.K C) (M3 X.K Fe) ix σ H Q:=fun σ H Q h=>DH tk σ H Q (Mr σ H Q h)
theorem Oj (hc:X.calm=true) (ok:jc X scope N ix) (tk:rG ix g) (hi:FI X tg iter G) (hb:JX X scope N tg elt ifs g C Fe)
  (hs:∀ x,Ts iter X.env x=pure x:=by intro _; rfl):FE X (.ListComp elt [⟨tg,iter,ifs,0⟩] scope pos) (kP ix G g C Fe) :=
 PE.weak (Hx hc ok.cell ok.kind ok.names ok.free ok.ix hi hb.k hs) (HM tk)
end

structure Ks where
 nx:aq->R D
 bk:aq->R D:=fun _=>un
 ct:aq->R D:=fun _=>un
 ex:Ex->aq->R D:=fun x _=>.error (some x)
abbrev cw:=Ks->aq->R D
def uA {α:Type} (r:R α) (k:Ks) (ρ:aq) (f:α->R D):R D:=match r with
 | .ok a=>f a
 | .error (some x)=>k.ex x ρ
 | .error none=>un
structure Base (Hb:Hp) (Ob:List S3) (H:Hp) (O:List S3):Prop where
 same:bn Hb H
 sub:∀ a∈Ob,a∈O
 new:∀ a∈O,a∈Ob\/Hb a=none
def mK (K:RL) (H:Hp) (O:List S3):List S3->List D->Prop
 | [],[]=>True
 | b::bs,x::xs=>dW K H O b x/\mK K H O bs xs
 | _,_=>False
def yo (K:RL) (H:Hp) (O:List S3) (a:S3) (bs:List S3) (d:D):Prop :=
 ∃ xs,mK K H O bs xs/\((d=.lst xs/\H a=some (.lst (bs.map .ref)))\/(∃ kvs:List (List Key×V),d=.dct (kvs.map fun p=>.tup (p.1.map bz)) xs/\H a=some (.dT kvs)/\kvs.map (·.2)=bs.map .ref)\/(d=.dct [] xs/\bs=[]/\H a=some (.dK [])))
def Bv (K:RL) (Hb:Hp) (Ob O:List S3) (H:Hp) (ρ:aq) (σ:St) (i:Nat) (d:D):Prop :=
 ∃ a bs,σ[i]?=some (some (.ref a))/\yo K H O a bs d/\(a::bs).Nodup/\(∀ b∈a::bs,b∈O/\Hb b=none/\b∉Ob/\∀ (j:Nat) d',ρ[j]?=some (some (.own d'))->σ[j]?≠some (some (.ref b)))/\∀ (j:Nat) d',ρ[j]?=some (some (.nest d'))->j=i
theorem mK.mono {K:RL} {H H':Hp} {O O':List S3} (s:bn (hid H O) (hid H' O')):∀ {bs:List S3} {xs:List D},mK K H O bs xs->(∀ b∈bs,(∃ o,H b=some o)->H' b=H b)->mK K H' O' bs xs
 | [],[],_,_=>trivial
 | b::bs,x::xs,h,e=>⟨h.1.mono (e b O6 h.1.some).symm s,mK.mono s h.2 fun b' hb=>e b' (O7 _ hb)⟩
 | [],_::_,h,_=>h.elim
 | _::_,[],h,_=>h.elim
theorem mK.some {K:RL} {H:Hp} {O:List S3}:∀ {bs:List S3} {xs:List D},mK K H O bs xs->∀ b∈bs,∃ o,H b=some o
 | [],_,_,_,hb=>nomatch hb
 | b::bs,x::xs,h,b',hb=>by
  rcases List.mem_cons.mp hb with z | z
  ·rw [z]; exact h.1.some
  ·exact mK.some h.2 b' z
 | _::_,[],h,_,_=>h.elim
theorem yo.some {K:RL} {H:Hp} {O:List S3} {a:S3} {bs:List S3} {d:D} (h:yo K H O a bs d):∀ b∈a::bs,∃ o,H b=some o:=fun b hb=>by
 obtain⟨xs,h1,h2⟩:=h;rcases List.mem_cons.mp hb with z | z
 ·rw [z];rcases h2 with ⟨_,q⟩ | ⟨_,_,q,_⟩ | ⟨_,_,q⟩ <;> exact⟨_,q⟩
 ·exact h1.some b z
theorem yo.mono {K:RL} {H H':Hp} {O O':List S3} {a:S3} {bs:List S3} {d:D} (h:yo K H O a bs d) (s:bn (hid H O) (hid H' O')) (e:∀ b∈a::bs,(∃ o,H b=Option.some o)->H' b=H b):yo K H' O' a bs d:=by
 have ea:=e a O6 (h.some a O6);obtain⟨xs,h1,h2⟩:=h;refine⟨xs,h1.mono s fun b hb=>e b (O7 _ hb),?_⟩;rw [ea]; exact h2
theorem Bv.to {K:RL} {Hb Hb':Hp} {Ob O O':List S3} {H H':Hp} {ρ ρ':aq} {σ σ':St} {i:Nat} {d:D} (h:Bv K Hb Ob O H ρ σ i d) (hσ:σ'[i]?=σ[i]?) (s:bn (hid H O) (hid H' O'))
  (k:∀ b,b∈O->Hb b=none->b∉Ob->(∀ (j:Nat) d',ρ[j]?=some (some (.own d'))->σ[j]?≠some (some (.ref b)))->(∃ o,H b=some o)->H' b=H b/\b∈O'/\Hb' b=none/\∀ (j:Nat) d',ρ'[j]?=some (some (.own d'))->σ'[j]?≠some (some (.ref b)))
  (n:∀ (j:Nat) d',ρ'[j]?=some (some (.nest d'))->∃ d2,ρ[j]?=some (some (.nest d2))):Bv K Hb' Ob O' H' ρ' σ' i d:=by
 obtain⟨a,bs,h1,h2,h3,h4,h5⟩:=h;refine⟨a,bs,hσ.trans h1,h2.mono s fun b hb ho=>?_,h3,fun b hb=>?_,fun j d' q=>?_⟩
 ·obtain⟨q1,q2,q3,q4⟩:=h4 b hb;exact(k b q1 q2 q3 q4 ho).1
 ·obtain⟨q1,q2,q3,q4⟩:=h4 b hb;obtain⟨_,w2,w3,w4⟩:=k b q1 q2 q3 q4 (h2.some b hb);exact⟨w2,w3,q3,w4⟩
 ·obtain⟨d2,q⟩:=n j d' q;exact h5 j d2 q
structure fw (K:RL) (Hb:Hp) (Ob O:List S3) (H:Hp) (ρ:aq) (σ:St):Prop where
 env:eG K O H ρ σ
 base:Base Hb Ob H O
 mine:∀ (i:Nat) xs a,ρ[i]?=some (some (.own xs))->σ[i]?=some (some (.ref a))->Hb a=none/\a∉Ob
 nst:∀ (i:Nat) d,ρ[i]?=some (some (.nest d))->Bv K Hb Ob O H ρ σ i d
theorem Base.same' {Hb:Hp} {Ob:List S3} {H H':Hp} {O:List S3} (b:Base Hb Ob H O) (s:bn H H'):Base Hb Ob H' O:=⟨b.same.trans s,b.sub,b.new⟩
theorem fw.same {K:RL} {Hb:Hp} {Ob O:List S3} {H H':Hp} {ρ:aq} {σ:St} (h:fw K Hb Ob O H ρ σ) (s:bn H H'):fw K Hb Ob O H' ρ σ:=⟨h.env.same s,h.base.same' s,h.mine,fun i d q=>(h.nst i d q).to rfl (cf s) (fun b q1 q2 q3 q4 ⟨o,ho⟩=>⟨by rw [ho,s _ _ ho],q1,q2,q4⟩) fun j d' z=>⟨d',z⟩⟩
theorem fw.after {K:RL} {Hb:Hp} {Ob O:List S3} {H:Hp} {ρ ρ':aq} {σ σ':St} (S:fw K Hb Ob O H ρ σ) (E':eG K O H ρ' σ') (own:∀ (i:Nat) x,ρ'[i]?=some (some x)->(∀ d,x≠.val d)->σ'[i]?=σ[i]?/\ρ[i]?=some (some x)):fw K Hb Ob O H ρ' σ' :=
 ⟨E',S.base,fun i xs a q1 q2=>by
  obtain⟨w1,w2⟩:=own i _ q1 (fun _ z=>nomatch z);rw [w1] at q2;exact S.mine i xs a w2 q2,fun i d q=>by
  obtain⟨w1,w2⟩:=own i _ q (fun _ z=>nomatch z);refine(S.nst i d w2).to w1 (fun _ _ z=>z) (fun b q1 q2 q3 q4 _=>⟨rfl,q1,q2,fun l d' w=>?_⟩) fun l d' w=>⟨d',(own l _ w (fun _ z=>nomatch z)).2⟩
  obtain⟨z1,z2⟩:=own l _ w (fun _ z=>nomatch z);rw [z1]; exact q4 l d' z2⟩
structure Ly (X:Cx) (Hb:Hp) (Ob:List S3) (E:Ends) (k:Ks) (r:R D):Prop where
 ne:r≠un
 nx:∀ O ρ σ H,fw X.K Hb Ob O H ρ σ->k.nx ρ=r->E.nx σ H
 bk:∀ O ρ σ H,fw X.K Hb Ob O H ρ σ->k.bk ρ=r->E.bk σ H
 ct:∀ O ρ σ H,fw X.K Hb Ob O H ρ σ->k.ct ρ=r->E.ct σ H
 rt:∀ d O v H,r=.ok d->Base Hb Ob H O->cY X.K (hid H O) d v->E.rt v H
 ex:∀ O ρ σ H x,fw X.K Hb Ob O H ρ σ->k.ex x ρ=r->J0 X σ O H x
def MN (X:Cx) (Hb:Hp) (Ob:List S3) (F:cw):TS:=fun E σ H=>∃ O ρ k r,fw X.K Hb Ob O H ρ σ/\F k ρ=r/\Ly X Hb Ob E k r
def FS (X:Cx) (st:Th) (F:cw):Prop:=∀ Hb Ob,PS X st (MN X Hb Ob F)
def zo (X:Cx) (st:List Th) (F:cw):Prop:=∀ Hb Ob,x6 X st (MN X Hb Ob F)
theorem jw.on {X:Cx} {Hb:Hp} {Ob O:List S3} {H:Hp} {ρ:aq} {σ:St} {E:Ends} {k:Ks} {r:R D} {α:Type} {fr:R α} {G:α->R D} {Q:α->Prop} (h:uA fr k ρ G=r) (hk:Ly X Hb Ob E k r) (S:fw X.K Hb Ob O H ρ σ) (q:∀ a,G a=r->Q a):jw X σ O H fr Q:=by
 match fr,h with
 | .ok a,h=>exact q a h
 | .error (some x),h=>exact hk.ex O ρ σ H x S h
 | .error none,h=>exact absurd h.symm hk.ne
section
variable {X:Cx} {st:Th} {rest body:List Th} {pos:Pos}
def cG:cw:=fun k ρ=>k.nx ρ
def aJ (F1 F2:cw):cw:=fun k ρ=>F1 { k with nx:=F2 k } ρ
theorem L3:zo X [] cG:=fun Hb Ob=>x6.weak G9 fun E σ H ⟨O,ρ,k,r,S,hF,hk⟩=>hk.nx O ρ σ H S hF
theorem J3 {F1 F2:cw} (h1:FS X st F1) (h2:zo X rest F2):zo X (st::rest) (aJ F1 F2):=fun Hb Ob=>x6.weak (EB (h1 Hb Ob) (h2 Hb Ob)) fun E σ H ⟨O,ρ,k,r,S,hF,hk⟩ =>
 ⟨O,ρ,{ k with nx:=F2 k },r,S,hF,hk.ne,fun O' ρ' σ' H' S' e=>⟨O',ρ',k,r,S',e,hk⟩,hk.bk,hk.ct,hk.rt,hk.ex⟩
theorem L1 {F1:cw} (h1:FS X st F1):zo X [st] F1:=fun Hb Ob=>Bl (h1 Hb Ob)
def bG (f:FX):cw:=fun k ρ=>uA (f ρ) k ρ .ok
theorem NV {e:Tf} {f:FX} (h:FE X e f):FS X (.Return (some e) pos) (bG f):=fun Hb Ob=>PS.weak (Js h) fun E σ H ⟨O,ρ,k,r,S,hF,hk⟩ =>
 ⟨O,ρ,S.env,jw.on hF hk S fun d e v H' s' d'=>hk.rt d O v H' e.symm (S.base.same' s') d'⟩
def Lr:cw:=fun _ _=>.ok .non
def j3 (c:aq->R Bool) (A B:cw):cw:=fun k ρ=>uA (c ρ) k ρ fun b=>if b then A k ρ else B k ρ
theorem Ou {c:Tf} {a b:List Th} {tc:aq->R Bool} {A B:cw} (hc:FT X c tc) (ha:zo X a A) (hb:zo X b B):FS X (.If c a b pos) (j3 tc A B):=fun Hb Ob=>PS.weak (K1 hc (ha Hb Ob) (hb Hb Ob)) fun E σ H ⟨O,ρ,k,r,S,hF,hk⟩ =>
 ⟨O,ρ,S.env,jw.on hF hk S fun z e H1 s1=>by
  cases z with
  | true=>exact FL ⟨O,ρ,k,r,S.same s1,e,hk⟩
  | false=>exact Gx ⟨O,ρ,k,r,S.same s1,e,hk⟩⟩
def bR (i:Nat) (f:FX):cw:=fun k ρ=>uA (f ρ) k ρ fun d=>k.nx (setV i d ρ)
theorem fw.setV {K:RL} {Hb:Hp} {Ob O:List S3} {H:Hp} {ρ:aq} {σ:St} (E:fw K Hb Ob O H ρ σ) {i:Nat} {d:D} {v:V} (hi:i < σ.length) (hd:cY K (hid H O) d v):fw K Hb Ob O H (setV i d ρ) (σ.set i (some v)) :=
  ⟨E.env.setV hi hd,E.base,fun j xs a e1 e2=>by
    rcases bh e1 with ⟨_,q⟩ | ⟨ne,q⟩
    · cases q
    · rw [Pa (Ne.symm ne)] at e2
      exact E.mine j xs a q e2,
   fun j dn e=>by
    rcases bh e with ⟨_,q⟩ | ⟨ne,q⟩
    · cases q
    · refine(E.nst j dn q).to (Pa (Ne.symm ne)) (fun _ _ z=>z) (fun b q1 q2 q3 q4 _=>⟨rfl,q1,q2,fun l d' w=>?_⟩) fun l d' w=>?_
      · rcases bh w with ⟨_,z⟩ | ⟨nl,z⟩
        · cases z
        · rw [Pa (Ne.symm nl)]; exact q4 l d' z
      · rcases bh w with ⟨_,z⟩ | ⟨_,z⟩
        · cases z
        · exact⟨d',z⟩⟩
theorem vA {f:FX} {i:Nat} (hi:i < X.N.length) (h:PS X st (GH (tF X f) (vy i))):FS X st (bR i f):=fun Hb Ob pins s σ H E I ⟨O,ρ,k,r,S,hF,hk⟩ =>
 h pins s σ H E I ⟨O,ρ,S.env,jw.on hF hk S fun d e v H1 s1 d1=>hk.nx O _ _ H1 ((S.same s1).setV (by rw [I.len]; exact hi) d1) e⟩
theorem Od {i:Nat} {x:Str} {e:Tf} {f:FX} {pos':Pos} (hN:X.N.Nodup) (hi:X.N[i]?=some x) (hx:Loc X.env.scope x) (he:FE X e f) (hs:swapsWith e (some (.Name x pos')) pos.line X.env=pure false:=by rfl) (hf:X.fn x=true\/X.env.scope.names.lookup x=some .local:=by first | exact .inl rfl | exact .inr rfl | assumption) :
  FS X (.Assign [.Name x pos'] e pos) (bR i f):=vA (List.getElem?_eq_some_iff.mp hi).1 (As hN hi hx he hs hf)
theorem Oy {elt tg iter:Tf} {ifs:List Tf} {scope:Td} {N:List Str} {ix:List (Option Nat)} {G:aq->R (List D)} {g:GF} {C:aq->R Bool} {Fe:FX} {i:Nat} {y:Str} {lpos py spos:Pos} (hN:X.N.Nodup) (hi':X.N[i]?=some y) (hx:Loc X.env.scope y)
  (hc:X.calm=true) (ok:jc X scope N ix) (tk:rG ix g) (hi:FI X tg iter G) (hb:JX X scope N tg elt ifs g C Fe)
  (hsw:swapsWith (.ListComp elt [⟨tg,iter,ifs,0⟩] scope lpos) (some (.Name y py)) spos.line X.env=pure true:=by rfl)
  (hs:∀ x,Ts iter X.env x=pure x:=by intro _; rfl)
  (hf:X.fn y=true\/X.env.scope.names.lookup y=some .local:=by first | exact .inl rfl | exact .inr rfl | assumption) :
  FS X (.Assign [.Name y py] (.ListComp elt [⟨tg,iter,ifs,0⟩] scope lpos) spos) (bR i (kP ix G g C Fe)) :=
 vA (List.getElem?_eq_some_iff.mp hi').1 (PS.weak (HE hN hi' hx hc ok.cell ok.kind ok.names ok.free ok.ix hi hb.k hsw hs hf) fun E σ H q=>HM tk σ H _ q)
def vn:cw:=fun _ _=>un
theorem LW:FS X st vn:=fun Hb Ob pins s σ H E I ⟨O,ρ,k,r,S,hF,hk⟩=>absurd hF.symm hk.ne
def kill (is:List Nat) (ρ:aq):aq:=is.foldl (fun ρ i=>ρ.set i none) ρ
theorem kF:∀ (is:List Nat) (ρ:aq) (i:Nat) (x:S),(kill is ρ)[i]?=some (some x)->ρ[i]?=some (some x)
 | [],ρ,i,x,e=>e
 | j::is,ρ,i,x,e=>by
  rcases bh (kF is (ρ.set j none) i x e) with ⟨_,q⟩ | ⟨_,q⟩
  ·cases q
  ·exact q
theorem fw.kill {K:RL} {Hb:Hp} {Ob O:List S3} {H:Hp} {ρ:aq} {σ:St} (E:fw K Hb Ob O H ρ σ) (is:List Nat):fw K Hb Ob O H (kill is ρ) σ :=
 ⟨E.env.forget (kF is ρ),E.base,fun i xs a e1 e2=>E.mine i xs a (kF is ρ i _ e1) e2,fun i d q=>(E.nst i d (kF is ρ i _ q)).to rfl (fun _ _ z=>z) (fun b q1 q2 q3 q4 _=>⟨rfl,q1,q2,fun l d' w=>q4 l d' (kF is ρ l _ w)⟩) fun l d' w=>⟨d',kF is ρ l _ w⟩⟩
def fO (is:List Nat) (F:cw):cw:=fun k ρ=>F k (kill is ρ)
theorem KH {st:List Th} {F:cw} (is:List Nat) (h:zo X st F):zo X st (fO is F):=fun Hb Ob=>x6.weak (h Hb Ob) fun E σ H ⟨O,ρ,k,r,S,hF,hk⟩=>⟨O,TG.kill is ρ,k,r,S.kill is,hF,hk⟩
end
def gX (g:GF) (B:cw) (k:Ks):List D->aq->R D
 | [],ρ=>k.nx ρ
 | d::ds,ρ=>(rO (g d ρ)).bind fun ρ1=>B ⟨gX g B k ds,k.nx,gX g B k ds,k.ex⟩ ρ1
def kM (G:aq->R (List D)) (g:GF) (B:cw):cw:=fun k ρ=>uA (G ρ) k ρ fun ds=>gX g B k ds ρ
def lb (H:Hp) (O Ob:List S3):Hp:=fun b=>if b∈O/\b∉Ob then none else H b
theorem wC {H:Hp} {O Ob:List S3} {b:S3} (h1:b∈O) (h2:b∉Ob):lb H O Ob b=none:=by unfold lb; rw [if_pos ⟨h1,h2⟩]
theorem Hr {H:Hp} {O Ob:List S3} {b:S3} {o:HO} (h:lb H O Ob b=some o):H b=some o/\¬ (b∈O/\b∉Ob):=by
 unfold lb at h;split at h
 ·cases h
 ·rename_i n; exact⟨h,n⟩
theorem Fc {H:Hp} {O Ob:List S3} {b:S3} {o:HO} (h:H b=some o) (n:¬ (b∈O/\b∉Ob)):lb H O Ob b=some o:=by unfold lb; rw [if_neg n]; exact h
theorem Base.loop {Hb:Hp} {Ob:List S3} {H:Hp} {O:List S3} (b:Base Hb Ob H O):Base (lb H O Ob) Ob H O :=
 ⟨fun c o h=>(Hr h).1,b.sub,fun a ha=>by
  by_cases h:a∈Ob
  ·exact .inl h
  ·exact .inr (wC ha h)⟩
theorem Base.back {Hb:Hp} {Ob:List S3} {H H':Hp} {O O':List S3} (b:Base Hb Ob H O) (b':Base (lb H O Ob) Ob H' O'):Base Hb Ob H' O':=by
 have up:bn Hb (lb H O Ob):=fun c o h=>Fc (b.same c o h) fun ⟨z1,z2⟩=>by
  rcases b.new c z1 with z | z
  ·exact z2 z
  ·rw [z] at h; cases h
 exact⟨up.trans b'.same,b'.sub,fun a ha=>(b'.new a ha).imp id up.free⟩
theorem fw.loop {K:RL} {Hb:Hp} {Ob O:List S3} {H:Hp} {ρ:aq} {σ:St} (E:fw K Hb Ob O H ρ σ):fw K (lb H O Ob) Ob O H ρ σ :=
 ⟨E.env,E.base.loop,fun i xs a e1 e2=>by
  obtain⟨_,n⟩:=E.mine i xs a e1 e2;obtain⟨a',e3,e4,_⟩:=E.env.own i xs e1;rw [e2] at e3; cases e3;exact⟨wC e4 n,n⟩,fun i d q=>(E.nst i d q).to rfl (fun _ _ z=>z) (fun b q1 q2 q3 q4 _=>⟨rfl,q1,wC q1 q3,q4⟩) fun l d' w=>⟨d',w⟩⟩
theorem fw.back {K:RL} {Hb:Hp} {Ob O O':List S3} {H H':Hp} {ρ':aq} {σ':St} (b:Base Hb Ob H O) (E:fw K (lb H O Ob) Ob O' H' ρ' σ'):fw K Hb Ob O' H' ρ' σ' :=
 have up:bn Hb (lb H O Ob):=fun c o h=>Fc (b.same c o h) fun ⟨z1,z2⟩=>by
  rcases b.new c z1 with z | z
  ·exact z2 z
  ·rw [z] at h; cases h
 ⟨E.env,b.back E.base,fun i xs a e1 e2=>by
  obtain⟨z,n⟩:=E.mine i xs a e1 e2;exact⟨up.free z,n⟩,fun i d q=>(E.nst i d q).to rfl (fun _ _ z=>z) (fun b q1 q2 q3 q4 _=>⟨rfl,q1,up.free q2,q4⟩) fun l d' w=>⟨d',w⟩⟩
theorem Em {Hb:Hp} {Ob O O':List S3} {H H':Hp} (b:Base Hb Ob H O) (b':Base (lb H O Ob) Ob H' O'):bn (hid H O) (hid H' O'):=fun c o h=>by
 unfold hid at h ⊢;by_cases hc:c∈O
 ·rw [if_pos hc] at h; cases h
 ·rw [if_neg hc] at h;have h1:lb H O Ob c=some o:=Fc h fun z=>hc z.1;rw [if_neg]
  ·exact b'.same _ _ h1
  ·intro z;rcases b'.new c z with z | z
   ·exact hc (b.sub c z)
   ·rw [h1] at z; cases z
theorem Ly.loop {X:Cx} {Hb:Hp} {Ob O:List S3} {H:Hp} {E E':Ends} {k k':Ks} {r:R D} (hk:Ly X Hb Ob E k r) (b:Base Hb Ob H O) (hn:∀ O' ρ' σ' H',fw X.K (lb H O Ob) Ob O' H' ρ' σ'->k'.nx ρ'=r->E'.nx σ' H') (hc:∀ O' ρ' σ' H',fw X.K (lb H O Ob) Ob O' H' ρ' σ'->k'.ct ρ'=r->E'.ct σ' H')
    (eb:k'.bk=k.nx) (ee:k'.ex=k.ex) (Eb:E'.bk=E.nx) (Er:E'.rt=E.rt):Ly X (lb H O Ob) Ob E' k' r :=
  ⟨hk.ne,hn,fun O' ρ' σ' H' S e=>by rw [Eb]; exact hk.nx O' ρ' σ' H' (S.back b) (by rw [<- eb]; exact e),hc,fun d O' v H' e b' dv=>by rw [Er]; exact hk.rt d O' v H' e (b.back b') dv,
   fun O' ρ' σ' H' x S e=>hk.ex O' ρ' σ' H' x (S.back b) (by rw [<- ee]; exact e)⟩
section
variable {X:Cx} {st:Th} {rest body:List Th} {pos:Pos}
theorem ME {tg iter:Tf} {G:aq->R (List D)} {g:GF} {B:cw} (hp:Tr (model X.prog X.w) X.A X.env X.xe) (hc:X.calm=true) (hi:FI X tg iter G) (hg:FG X tg g) (hb:zo X body B)
  (hs:∀ x,Ts iter X.env x=pure x:=by intro _; rfl):FS X (.For tg iter body [] pos) (kM G g B):=fun Hb Ob pins s σ H E I ⟨O,ρ,k,r,S,hF,hk⟩=>by
 have hall:x6 X body (fun E σ H=>∃ Hb',MN X Hb' Ob B E σ H):=fun pins s σ H E I ⟨Hb',q⟩=>hb Hb' Ob pins s σ H E I q;refine IZ hp hc hi hg hall hs pins s σ H E I ⟨O,ρ,S.env,jw.on hF hk S fun ds hF J H1 s1 wk=>?_⟩;have E1:=S.same s1;refine⟨fun i m σ H=>m=ds.length - i/\i<=ds.length/\∃ O' ρ',fw X.K (lb H1 O Ob) Ob O' H ρ' σ/\gX g B k (ds.drop i) ρ'=r,
  ⟨ds.length,by rw [Qt],Pu _,O,ρ,E1.loop,by rw [Qf]; exact hF⟩,?_⟩
 rintro i m σ' H' ⟨rfl,hi',O',ρ',E',hr⟩;have sD:=Em E1.base E'.base;by_cases hlt:i < ds.length
 ·right;obtain⟨go,yl⟩:=(wk H' O' i E'.env.all sD).1 ds[i] (by simp [hlt]);refine⟨go,fun σ2 H2=>ds.length - (i+1)=ds.length - (i+1)/\i+1<=ds.length/\∃ O' ρ',fw X.K (lb H1 O Ob) Ob O' H2 ρ' σ2/\gX g B k (ds.drop (i+1)) ρ'=r,fun σ2 H2 z=>⟨ds.length - (i+1),by omega,z⟩,fun x H2 y=>?_⟩;obtain⟨s2,dx⟩:=yl x H2 y;have E':=E'.same s2;rw [Qv hlt] at hr;cases hg':g ds[i] ρ' with
  | none =>
   have hr':(rO (g ds[i] ρ')).bind (fun ρ1=>B ⟨gX g B k (ds.drop (i+1)),k.nx,gX g B k (ds.drop (i+1)),k.ex⟩ ρ1)=r:=hr;rw [hg'] at hr';exact absurd hr'.symm hk.ne
  | some ρ1 =>
   have hr':(rO (g ds[i] ρ')).bind (fun ρ1=>B ⟨gX g B k (ds.drop (i+1)),k.nx,gX g B k (ds.drop (i+1)),k.ex⟩ ρ1)=r:=hr;rw [hg'] at hr';refine⟨O',ρ',ds[i],ρ1,E'.env,dx,hg',fun σ3 E3 own=>?_⟩;have E3':fw X.K (lb H1 O Ob) Ob O' H2 ρ1 σ3:=E'.after E3 own;exact⟨lb H1 O Ob,O',ρ1,⟨gX g B k (ds.drop (i+1)),k.nx,gX g B k (ds.drop (i+1)),k.ex⟩,r,E3',hr',hk.loop E1.base (fun O4 ρ4 σ4 H4 E4 z=>⟨rfl,hlt,O4,ρ4,E4,z⟩) (fun O4 ρ4 σ4 H4 E4 z=>⟨rfl,hlt,O4,ρ4,E4,z⟩) rfl rfl rfl rfl⟩
 ·left;have ei:i=ds.length:=by omega
  subst ei;refine⟨(wk H' O' ds.length E'.env.all sD).2 rfl,?_⟩;rw [Qy] at hr;exact hk.nx O' ρ' σ' H' (E'.back E1.base) hr
end
end TG
namespace TG
open PySem PySem.Spec L2
variable [aX]

theorem fw.setO {K:RL} {Hb:Hp} {Ob O:List S3} {H:Hp} {ρ:aq} {σ:St} (E:fw K Hb Ob O H ρ σ) {i:Nat} {d d':D} {a:S3} {o:HO} (hi:ρ[i]?=some (some (.own d))) (ha:σ[i]?=some (some (.ref a))) (m:tx o) (new:dW K (upd H a o) O a d') :
  fw K Hb Ob O (upd H a o) (ρ.set i (some (.own d'))) σ:=by
 obtain⟨a',ha',haO,hat⟩:=E.env.own i d hi;rw [ha] at ha'; cases ha';obtain⟨m1,m2⟩:=E.mine i d a hi ha;have s:bn (hid H O) (hid (upd H a o) O):=iw haO;have own:∀ (j:Nat) ys,(ρ.set i (some (.own d')))[j]?=some (some (.own ys))->∃ ys',ρ[j]?=some (some (.own ys')):=fun j ys q=>by
  rcases bh q with ⟨hj,_⟩ | ⟨_,q⟩
  ·rw [hj]; exact⟨d,hi⟩
  ·exact⟨ys,q⟩
 refine⟨⟨fun j d1 e=>?_,fun j ys e=>?_,fun j l ys zs b q1 q2 q3 q4=>?_,E.env.all.upd haO m⟩,⟨fun b u h=>?_,E.base.sub,E.base.new⟩,fun j ys b q1 q2=>?_,fun j dn q=>?_⟩
 ·rcases bh e with ⟨_,q⟩ | ⟨ne,q⟩
  ·cases q
  ·obtain⟨w,q1,q2⟩:=E.env.val j d1 q;exact⟨w,q1,q2.mono s⟩
 ·rcases bh e with ⟨hj,q⟩ | ⟨ne,q⟩
  ·cases q;rw [hj];exact⟨a,ha,haO,new⟩
  ·obtain⟨b,q1,q2,q3⟩:=E.env.own j ys q;have nb:b≠a:=fun z=>ne (E.env.one j i ys d a q hi (by rw [<- z]; exact q1) ha);exact⟨b,q1,q2,q3.mono (by rw [aE nb]) s⟩
 ·obtain⟨_,q1'⟩:=own j ys q1;obtain⟨_,q2'⟩:=own l zs q2;exact E.env.one j l _ _ b q1' q2' q3 q4
 ·have nb:b≠a:=fun z=>by rw [z,m1] at h; cases h
  rw [aE nb]; exact E.base.same b u h
 ·obtain⟨ys',q⟩:=own j ys q1;exact E.mine j ys' b q q2
 ·have q:ρ[j]?=some (some (.nest dn)):=by
   rcases bh q with ⟨_,z⟩ | ⟨_,z⟩
   ·cases z
   ·exact z
  refine(E.nst j dn q).to rfl s (fun b q1 q2 q3 q4 _=>⟨aE fun z=>q4 i d hi (by rw [z]; exact ha),q1,q2,fun l d1 w=>?_⟩) fun l d1 w=>?_
  ·obtain⟨_,w'⟩:=own l d1 w;exact q4 l _ w'
  ·rcases bh w with ⟨_,z⟩ | ⟨_,z⟩
   ·cases z
   ·exact⟨d1,z⟩
theorem fw.setNew {K:RL} {Hb:Hp} {Ob O:List S3} {H H':Hp} {ρ:aq} {σ:St} (E:fw K Hb Ob O H ρ σ) {i:Nat} {d:D} {p:S3} (hi:i < σ.length) (sm:bn H H') (hp:H p=none) (m:∃ o,H' p=some o/\tx o) (new:dW K H' (p::O) p d) :
  fw K Hb Ob (p::O) H' (ρ.set i (some (.own d))) (σ.set i (some (.ref p))):=by
 have hpO:p∉O:=E.env.all.not hp;have s:bn (hid H O) (hid H' (p::O)):=fun b o h=>by
  unfold hid at h ⊢;by_cases hb:b∈O
  ·rw [if_pos hb] at h; cases h
  ·rw [if_neg hb] at h;have ne:=bc h hp;rw [if_neg (by intro z; rcases List.mem_cons.mp z with z | z; exact ne z; exact hb z)]; exact sm _ _ h
 have other:∀ (j:Nat) xs,ρ[j]?=some (some (.own xs))->σ[j]?≠some (some (.ref p)):=fun j xs e z=>by
  obtain⟨a,e1,e2,e3⟩:=E.env.own j xs e;rw [z] at e1; cases e1;obtain⟨o,e3⟩:=e3.some;rw [hp] at e3; cases e3
 refine⟨⟨fun j d' e=>?_,fun j xs e=>?_,fun j k xs ys a e1 e2 e3 e4=>?_,⟨(E.env.all.same sm).1,fun a ha=>?_⟩⟩,⟨E.base.same.trans sm,fun a ha=>O7 _ (E.base.sub a ha),fun a ha=>?_⟩,fun j xs a e1 e2=>?_,fun j dn e=>?_⟩
 ·rcases bh e with ⟨_,q⟩ | ⟨ne,q⟩
  ·cases q
  ·obtain⟨v,q1,q2⟩:=E.env.val j d' q;exact⟨v,by rw [Pa (Ne.symm ne)]; exact q1,q2.mono s⟩
 ·rcases bh e with ⟨hj,q⟩ | ⟨ne,q⟩
  ·cases q;rw [hj];exact⟨p,O9 hi,O6,new⟩
  ·obtain⟨a,q1,q2,q3⟩:=E.env.own j xs q;obtain⟨o,ho⟩:=q3.some;exact⟨a,by rw [Pa (Ne.symm ne)]; exact q1,O7 _ q2,q3.mono (rQ sm ho) s⟩
 ·rcases bh e1 with ⟨hj,q1⟩ | ⟨nj,q1⟩
  ·rcases bh e2 with ⟨hk,q2⟩ | ⟨nk,q2⟩
   ·exact hj.trans hk.symm
   ·rw [hj,O9 hi] at e3;cases e3;rw [Pa (Ne.symm nk)] at e4;exact absurd e4 (other k ys q2)
  ·rcases bh e2 with ⟨hk,q2⟩ | ⟨nk,q2⟩
   ·rw [hk,O9 hi] at e4;cases e4;rw [Pa (Ne.symm nj)] at e3;exact absurd e3 (other j xs q1)
   ·rw [Pa (Ne.symm nj)] at e3;rw [Pa (Ne.symm nk)] at e4;exact E.env.one j k xs ys a q1 q2 e3 e4
 ·rcases List.mem_cons.mp ha with rfl | ha
  ·exact m
  ·exact(E.env.all.same sm).2 a ha
 ·rcases List.mem_cons.mp ha with rfl | ha
  ·exact .inr (E.base.same.free hp)
  ·exact E.base.new a ha
 ·rcases bh e1 with ⟨hj,q1⟩ | ⟨nj,q1⟩
  ·rw [hj,O9 hi] at e2;cases e2;exact⟨E.base.same.free hp,fun z=>hpO (E.base.sub p z)⟩
  ·rw [Pa (Ne.symm nj)] at e2;exact E.mine j xs a q1 e2
 ·rcases bh e with ⟨_,q⟩ | ⟨ne,q⟩
  ·cases q
  ·refine(E.nst j dn q).to (Pa (Ne.symm ne)) s (fun b q1 q2 q3 q4 ⟨o,ho⟩=>⟨by rw [ho,sm _ _ ho],O7 _ q1,q2,fun l d1 w=>?_⟩) fun l d1 w=>?_
   ·rcases bh w with ⟨hl,z⟩ | ⟨nl,z⟩
    ·rw [hl,O9 hi];intro z;cases z;rw [hp] at ho; cases ho
    ·rw [Pa (Ne.symm nl)]; exact q4 l d1 z
   ·rcases bh w with ⟨_,z⟩ | ⟨_,z⟩
    ·cases z
    ·exact⟨d1,z⟩
def MD (X:Cx) (F:FX):TE:=fun σ H Q=>∃ O ρ,eG X.K O H ρ σ/\jw X σ O H (F ρ) fun d=>∀ p H',bn H H'->H p=none->(∃ o,H' p=some o/\tx o)->dW X.K H' (p::O) p d->Q (.ref p) H'
def FN (X:Cx) (e:Tf) (F:FX):Prop:=PE X e (MD X F)
section
variable {X:Cx} {pos:Pos}
theorem mI {K:RL} {H:Hp} {O:List S3} {p:S3} {ds:List D} {vs:List V} (hp:H p=none) (d:aZ K (hid H O) ds vs):dW K (upd H p (.lst vs)) (p::O) p (.lst ds):=⟨_,vs,aQ,rfl,d.mono (tL hp)⟩
theorem MH {es:List Tf} {g:aq->R (List D)} (h:FA X es g):FN X (.List es pos) (kU g) :=
 PE.weak (Az h) fun σ H Q ⟨O,ρ,E,hF⟩=>⟨O,ρ,E,(jw.bind hF).imp fun xs hF vs H1 s1 d1=>by
  obtain⟨d,e,q⟩:=jw.rO hF;obtain⟨hz,e⟩:=bH e;subst e;refine⟨by rw [<- d1.length]; exact eN hz,fun p hp=>?_⟩;exact q p _ (s1.trans (bF hp _)) (s1.free hp) ⟨_,aQ,trivial⟩ (mI hp d1)⟩
theorem LC {x:Str} {p:Pos} {e:Tf} {f:aq->R (List D)} (hg:Gl X x) (hm:X.mg x=none) (hv:Ta x=some (.type "list")) (ha:FA X [e] f) (hn:x ≠ "__name__":=by decide) (hdb:(x==("__debug__":Str))=false:=by decide)
  (hns:noStar e=true:=by rfl):FN X (.Call (.Name x p) [e] [] pos) (fL pN f) :=
 PE.weak (v9 (lZ) hg hm hv ha hn hdb (dH hns) (gB rfl)) fun σ H Q ⟨O,ρ,E,hF⟩=>⟨O,ρ,E,(jw.bind hF).imp fun ds hF vs H1 s1 d1=>by
  obtain⟨d,hg,q⟩:=jw.rO hF;unfold pN at hg;split at hg
  ·rename_i ys;cases hg;obtain⟨v,ev,h1⟩:=d1.one;rw [cI] at h1;obtain⟨p,ws,ep,g1,g2⟩:=h1;exact⟨p,ws,by rw [ev,ep],.inl ((aB H1 O).seq g1),fun l hl=>q l _ (s1.trans (bF hl _)) (s1.free hl) ⟨_,aQ,trivial⟩ (mI hl g2)⟩
  ·rename_i ys;cases hg;obtain⟨v,ev,h1⟩:=d1.one;rw [cJ] at h1;obtain⟨p,ws,ep,g1,g2⟩:=h1;exact⟨p,ws,by rw [ev,ep],.inr (bY (aB H1 O) g1),fun l hl=>q l _ (s1.trans (bF hl _)) (s1.free hl) ⟨_,aQ,trivial⟩ (mI hl g2)⟩
  ·cases hg⟩
def vN:FX:=fun _=>.ok (.dct [] [])
theorem Dt:FN X (.Dict [] [] pos) vN:=PE.weak D7 fun σ H Q ⟨O,ρ,E,q⟩ p hp=>q p _ (bF hp _) hp ⟨_,aQ,trivial⟩ ⟨_,[],aQ,cZ.mpr rfl,.inr ⟨[],rfl,rfl,rfl⟩⟩
def mq (i:Nat) (f:FX):cw:=fun k ρ=>uA (f ρ) k ρ fun d=>k.nx (ρ.set i (some (.own d)))
theorem vf {st:Th} {f:FX} {i:Nat} (hi:i < X.N.length) (h:PS X st (GH (MD X f) (vy i))):FS X st (mq i f):=fun Hb Ob pins s σ H E I ⟨O,ρ,k,r,S,hF,hk⟩ =>
 h pins s σ H E I ⟨O,ρ,S.env,jw.on hF hk S fun d e p H1 s1 hp m o=>hk.nx _ _ _ H1 (S.setNew (by rw [I.len]; exact hi) s1 hp m o) e⟩
theorem Nm {i:Nat} {x:Str} {e:Tf} {f:FX} {pos':Pos} (hN:X.N.Nodup) (hi:X.N[i]?=some x) (hx:Loc X.env.scope x) (he:FN X e f) (hs:swapsWith e (some (.Name x pos')) pos.line X.env=pure false:=by rfl) (hf:X.fn x=true\/X.env.scope.names.lookup x=some .local:=by first | exact .inl rfl | exact .inr rfl | assumption) :
  FS X (.Assign [.Name x pos'] e pos) (mq i f):=vf (List.getElem?_eq_some_iff.mp hi).1 (As hN hi hx he hs hf)
end
theorem HV {X:Cx} {F:FX}:∀ σ H Q,MD X F σ H Q->MG X F σ H Q:=fun σ H Q ⟨O,ρ,E,hF⟩=>⟨O,ρ,E,hF.imp fun d q D H' total acc e sm hD hD' dn=>by
 subst e;exact q D H' sm hD ⟨_,hD',trivial⟩ ⟨_,acc,hD',rfl,dn⟩⟩
theorem Ky {X:Cx} {elt tg iter:Tf} {ifs:List Tf} {scope:Td} {N:List Str} {ix:List (Option Nat)} {G:aq->R (List D)} {g:GF} {C:aq->R Bool} {Fe:FX} {i:Nat} {y:Str} {lpos py spos:Pos} (hN:X.N.Nodup) (hi':X.N[i]?=some y) (hx:Loc X.env.scope y)
  (hc:X.calm=true) (ok:jc X scope N ix) (tk:rG ix g) (hi:FI X tg iter G) (hb:JX X scope N tg elt ifs g C Fe)
  (hsw:swapsWith (.ListComp elt [⟨tg,iter,ifs,0⟩] scope lpos) (some (.Name y py)) spos.line X.env=pure true:=by rfl)
  (hs:∀ x,Ts iter X.env x=pure x:=by intro _; rfl)
  (hf:X.fn y=true\/X.env.scope.names.lookup y=some .local:=by first | exact .inl rfl | exact .inr rfl | assumption) :
  FS X (.Assign [.Name y py] (.ListComp elt [⟨tg,iter,ifs,0⟩] scope lpos) spos) (mq i (kP ix G g C Fe)) :=
 vf (List.getElem?_eq_some_iff.mp hi').1 (PS.weak (HE hN hi' hx hc ok.cell ok.kind ok.names ok.free ok.ix hi hb.k hsw hs hf) fun E σ H q=>DH tk σ H _ (HV σ H _ q))
theorem OA {X:Cx} {elt tg iter:Tf} {ifs:List Tf} {scope:Td} {pos:Pos} {N:List Str} {ix:List (Option Nat)} {G:aq->R (List D)} {g:GF} {C:aq->R Bool} {Fe:FX} (hc:X.calm=true) (ok:jc X scope N ix) (tk:rG ix g) (hi:FI X tg iter G) (hb:JX X scope N tg elt ifs g C Fe)
  (hs:∀ x,Ts iter X.env x=pure x:=by intro _; rfl):FN X (.ListComp elt [⟨tg,iter,ifs,0⟩] scope pos) (kP ix G g C Fe) :=
 PE.weak (Hx hc ok.cell ok.kind ok.names ok.free ok.ix hi hb.k hs) fun σ H Q q=>DH tk σ H _ (HV σ H _ q)
def AJ (i:Nat) (u:List D->List D->Option (List D)) (f:aq->R (List D)):cw:=fun k ρ=>match ρ[i]? with
 | some (some (.own (.lst xs)))=>uA (f ρ) k ρ fun ds=>(rO (u xs ds)).bind fun ys=>k.nx (ρ.set i (some (.own (.lst ys))))
 | _=>un
def Es (K:RL) (r:V->List V->Hp->VK->Prop) (u:List D->List D->Option (List D)):Prop :=
 ∀ (H:Hp) (O:List S3) (a:S3) (xs ys as:List D) (ws vs:List V) (Q:VK),eL H O->a∈O->H a=some (.lst ws)->aZ K (hid H O) xs ws->aZ K (hid H O) as vs->u xs as=some ys->(∀ ws' v,aZ K (hid H O) ys ws'->Q v (upd H a (.lst ws')))->r (.ref a) vs H Q
theorem qV {K:RL} {H:Hp} {O:List S3} {a:S3} {ys:List D} {ws:List V} (ha:a∈O) (h:aZ K (hid H O) ys ws):dW K (upd H a (.lst ws)) O a (.lst ys):=⟨_,ws,aQ,rfl,h.mono (iw ha)⟩
theorem Ot {X:Cx} {i:Nat} {x m:Str} {id:String} {r:V->List V->Hp->VK->Prop} {u:List D->List D->Option (List D)} {e:Tf} {es:List Tf} {f:aq->R (List D)} {npos apos cpos pos:Pos} (slot:Slot "list" m id) (hty:typeOf (.builtin id)=pure (.type "method_descriptor")) (hm:Lf X id r) (ok:Es X.K r u) (hx:PE X (.Name x npos) (ux i)) (he:FA X (e::es) f)
  (hbase:TB (.Name x npos) m X.env (eval (.Name x npos) X.env)=eval (.Name x npos) X.env:=by rfl)
  (hfew:((backTo cpos (Tg (e::es) X.env)).all (fun x=>!x.1) && (backToKw cpos (TF [] X.env)).all (fun x=>x.1.isSome)
   && decide ((e::es:List Tf).length+([]:List Uc).length+(if ([]:List Uc).isEmpty then 0 else 1) < 30))=true:=by rfl)
  (hline:(apos.endLine==cpos.line)=true:=by rfl) (hs:Tg (e::es) X.env=(false,eval e X.env)::Tg es X.env:=by rfl) (hplain:(backTo cpos (Tg es X.env)).any (·.1)=false:=by rfl)
  (hsw:swapsWith (.Call (.Attribute (.Name x npos) m apos) (e::es) [] cpos) none pos.line X.env=pure false:=by rfl) :
  FS X (.Expr (.Call (.Attribute (.Name x npos) m apos) (e::es) [] cpos) pos) (AJ i u f):=fun Hb Ob pins s σ H E I ⟨O,ρ,k,rr,S,hF,hk⟩=>by
 unfold AJ at hF;split at hF
 ·rename_i xs hxs;obtain⟨a,ha,haO,hat⟩:=S.env.own i _ hxs;obtain⟨o,vs0,ho,eo,dn⟩:=hat;subst eo;refine wI (A9 F.plainAttrs_list slot hty hm hx he hbase hfew hline hs hplain) hsw pins s σ H E I ⟨.ref a,ha,.inl ⟨rfl,vs0,oZ.of ho⟩,O,ρ,S.env,jw.on hF hk S fun ds hr vs H1 s1 d1=>?_⟩;have S1:=S.same s1;cases hu1:u xs ds with
  | none=>rw [hu1] at hr; exact absurd hr.symm hk.ne
  | some ys =>
   rw [hu1] at hr;exact ok H1 O a xs ys ds vs0 vs _ S1.env.all haO (s1 _ _ ho) (dn.mono (cf s1)) d1 hu1 fun ws' v new=>hk.nx O _ σ _ (S1.setO hxs ha trivial (qV haO new)) hr
 ·exact absurd hF.symm hk.ne
def gb (xs:List D) (ds:List D):Option (List D):=match ds with
 | [y]=>if small (xs.length+1) then some (xs++[y]) else none
 | _=>none
theorem fE {K:RL}:Es K xK gb:=fun H O a xs ys as ws vs Q hO haO ha dx da hu q=>by
 unfold gb at hu;split at hu
 ·rename_i y;obtain⟨h1,h2⟩:=bH hu;subst h2;obtain⟨v,rfl,dv⟩:=da.one
  have:=eN h1
  rw [dx.length] at this;exact⟨a,ws,v,rfl,rfl,ha,by omega,q _ _ (dx.snoc dv)⟩
 ·cases hu
def frz (i:Nat) (ρ:aq):aq:=match ρ[i]? with
 | some (some (.own d))=>setV i d ρ
 | _=>ρ
theorem eG.frz {K:RL} {O:List S3} {H:Hp} {ρ:aq} {σ:St} (E:eG K O H ρ σ) (i:Nat):∃ O',eG K O' H (frz i ρ) σ/\(∀ b∈O',b∈O)/\∀ b∈O,b∉O'->∃ d,ρ[i]?=some (some (.own d))/\σ[i]?=some (some (.ref b)):=by
 unfold TG.frz;split
 ·rename_i d hd;obtain⟨a,ha,haO,hat⟩:=E.own i d hd;have sub:∀ b∈O.filter (fun b=>decide (b≠a)),b∈O:=fun b hb=>(List.mem_filter.mp hb).1;have s:bn (hid H O) (hid H (O.filter fun b=>decide (b≠a))):=iI sub;have na:a∉O.filter fun b=>decide (b≠a):=fun z=>absurd rfl (of_decide_eq_true (List.mem_filter.mp z).2);refine⟨O.filter fun b=>decide (b≠a),⟨fun j d' e=>?_,fun j ys e=>?_,fun j l ys zs b q1 q2 q3 q4=>?_,⟨E.all.1,fun b hb=>E.all.2 b (sub b hb)⟩⟩,sub,fun b hb nb=>?_⟩
  ·rcases bh e with ⟨hj,q⟩ | ⟨ne,q⟩
   ·cases q;rw [hj];exact⟨.ref a,ha,hat.den s na⟩
   ·obtain⟨w,q1,q2⟩:=E.val j d' q;exact⟨w,q1,q2.mono s⟩
  ·rcases bh e with ⟨_,q⟩ | ⟨ne,q⟩
   ·cases q
   ·obtain⟨b,q1,q2,q3⟩:=E.own j ys q;have nb:b≠a:=fun z=>ne (E.one j i ys d a q hd (by rw [<- z]; exact q1) ha);exact⟨b,q1,List.mem_filter.mpr ⟨q2,decide_eq_true nb⟩,q3.mono rfl s⟩
  ·rcases bh q1 with ⟨_,q⟩ | ⟨_,q⟩
   ·cases q
   ·rcases bh q2 with ⟨_,q'⟩ | ⟨_,q'⟩
    ·cases q'
    ·exact E.one j l ys zs b q q' q3 q4
  ·by_cases z:b=a
   ·exact⟨d,hd,by rw [z]; exact ha⟩
   ·exact absurd (List.mem_filter.mpr ⟨hb,decide_eq_true z⟩) nb
 ·exact⟨O,E,fun _ z=>z,fun b hb nb=>absurd hb nb⟩
theorem fw.frz {K:RL} {Hb:Hp} {Ob O:List S3} {H:Hp} {ρ:aq} {σ:St} (E:fw K Hb Ob O H ρ σ) (i:Nat):∃ O',fw K Hb Ob O' H (frz i ρ) σ:=by
 obtain⟨O',E',sub,gone⟩:=E.env.frz i;refine⟨O',E',⟨E.base.same,fun a ha=>?_,fun a ha=>E.base.new a (sub a ha)⟩,fun j xs a q1 q2=>?_,fun j dn q1=>?_⟩
 ·by_cases z:a∈O'
  ·exact z
  ·obtain⟨d,e1,e2⟩:=gone a (E.base.sub a ha) z;exact absurd ha (E.mine i d a e1 e2).2
 ·have q:ρ[j]?=some (some (.own xs)):=by
   unfold TG.frz at q1;split at q1
   ·rcases bh q1 with ⟨_,q⟩ | ⟨_,q⟩
    ·cases q
    ·exact q
   ·exact q1
  exact E.mine j xs a q q2
 ·have bk:∀ (l:Nat) x,(TG.frz i ρ)[l]?=some (some x)->(∀ d,x≠.val d)->ρ[l]?=some (some x):=fun l x e nv=>by
   unfold TG.frz at e;split at e
   ·rcases bh e with ⟨_,q⟩ | ⟨_,q⟩
    ·cases q; exact absurd rfl (nv _)
    ·exact q
   ·exact e
  refine(E.nst j dn (bk j _ q1 (fun _ z=>nomatch z))).to rfl (iI sub) (fun b w1 w2 w3 w4 _=>⟨rfl,?_,w2,fun l d1 w=>w4 l d1 (bk l _ w (fun _ z=>nomatch z))⟩) fun l d1 w=>⟨d1,bk l _ w (fun _ z=>nomatch z)⟩
  by_cases z:b∈O'
  ·exact z
  ·obtain⟨d,e1,e2⟩:=gone b w1 z;exact absurd e2 (w4 i d e1)
def iO (i:Nat) (F:cw):cw:=fun k ρ=>F k (frz i ρ)
theorem LQ {X:Cx} {st:List Th} {F:cw} (i:Nat) (h:zo X st F):zo X st (iO i F):=fun Hb Ob=>x6.weak (h Hb Ob) fun E σ H ⟨O,ρ,k,r,S,hF,hk⟩=>by
 obtain⟨O',S'⟩:=S.frz i;exact⟨O',TG.frz i ρ,k,r,S',hF,hk⟩
def frzs (is:List Nat) (ρ:aq):aq:=is.foldl (fun ρ i=>frz i ρ) ρ
theorem eG.frzs {K:RL} {H:Hp} {σ:St}:∀ (is:List Nat) {O:List S3} {ρ:aq},eG K O H ρ σ->∃ O',eG K O' H (frzs is ρ) σ
 | [],O,_,E=>⟨O,E⟩
 | i::is,_,_,E=>by
  obtain⟨O',E',_⟩:=E.frz i;exact eG.frzs is E'
def md (is:List Nat) (f:aq->R Bool):aq->R Bool:=fun ρ=>Ci (f (frzs is ρ))
theorem Mg {X:Cx} {e:Tf} {f:aq->R Bool} (is:List Nat) (h:FT X e f):FT X e (md is f):=PT.weak h fun σ H Q ⟨O,ρ,E,hF⟩=>by
 obtain⟨O',E'⟩:=E.frzs is;refine⟨O',TG.frzs is ρ,E',?_⟩;unfold md at hF;cases hf:f (TG.frzs is ρ) with
 | error z=>rw [hf] at hF; exact hF.elim
 | ok d=>rw [hf] at hF; exact hF
end TG
namespace TG
open PySem PySem.Spec L2
variable [aX]

def Di (K:RL) (n:Nat) (g:List D->R D):Sp:=fun vs H Q E=>∃ O ds,vs.length=n/\eL H O/\aZ K (hid H O) ds vs/\match g ds with
 | .ok d=>∀ v H',bn H H'->cY K (hid H' O) d v->Q v H'
 | .error (some x)=>NC K H O x E
 | .error none=>False
section
variable {X:Cx} {k:Nat} {f C:S3} {fd:TK} {ps:List Str} {sp:Sp} {x m:Str} {p pos apos:Pos} {e o:Tf} {es:List Tf} {ta:TE} {t:TA}
theorem xE {pins:List (S3×Obj)} {σ:St} {H:Hp} {s:Tc} {Q:VK} {E:XK} {us:List SY} {vs:List V} (F:jI X.prog X.w X.K X.mg X.base (oC X.prog X.w) k f fd ps sp) (hr:fN k X.A) (hb:Binds X.K fd ps []) (hx:mG (oC X.prog X.w) X σ E)
  (I:Inv X pins σ H s) (r:Vals vs us) (h:sp vs H Q E):Te (model X.prog X.w) X.A (call (.ref f) us) (EP X pins σ Q) X.xe s:=by
 have hl:(us++[]).length=ps.length:=by rw [Pw,<- r.length]; exact F.len _ _ _ _ h
 have hb':=hb s us I.kIn hl;rw [Pw] at hb';refine wpAny_call (TN (F.run X.A X.stack s H ⟨us,[]⟩ us vs Q E hr I.env0 hb' r h) fun r s' hq=>?_);cases r with
 | error e=>exact hx pins H s e s' I hq
 | ok fl =>
  cases fl with
  | ret u=>exact I.after hq
  | next=>exact False.elim hq
  | brk=>exact False.elim hq
  | cont=>exact False.elim hq
def Fs (X:Cx) (sp:Sp) (t:TA):TE:=fun σ H Q=>t σ H fun vs H1=>∃ E,mG (oC X.prog X.w) X σ E/\sp vs H1 Q E
theorem Dm (F:jI X.prog X.w X.K X.mg X.base (oC X.prog X.w) k f fd ps sp) (hr:fN k X.A) (hg:Gl X x) (hm:X.mg x=some (.ref f)) (hk:RZ X.K (.ref f)=true) (hb:Binds X.K fd ps [])
  (ha:PA X (e::es) t) (hdb:(x==("__debug__":Str))=false:=by decide) (he:Tg (e::es) X.env=(false,eval e X.env)::Tg es X.env:=by rfl) (hpl:(backTo pos (Tg es X.env)).any (·.1)=false:=by rfl) :
  PE X (.Call (.Name x p) (e::es) [] pos) (Fs X sp t):=by
 intro pins s σ H Q I h;refine TQ (xG I hg hm ?_ hdb);refine R0 (h₀:=X.base) I.ok.mod.kin hk (eZ (ha pos pins s σ H _ I h) fun us s1 ⟨vs,H1,I1,r,E,hx,q⟩=>⟨I1.kIn,?_⟩) he hpl;exact xE F hr hb hx I1 r q
theorem CU {n:Nat} {g:List D->R D} {f:aq->R (List D)} (hn:∀ ds,g ds≠un->ds.length=n):∀ σ H Q,tF X (fR g f) σ H Q->Fs X (Di X.K n g) (LZ X f) σ H Q:=fun σ H Q ⟨O,ρ,E,hF⟩ =>
 ⟨O,ρ,E,(jw.bind hF).imp fun ds hF vs H1 s1 d1=>by
  cases hg:g ds with
  | ok d =>
   rw [hg] at hF;refine⟨E0,Bc,O,ds,by rw [<- d1.length]; exact hn ds (by rw [hg]; intro z; cases z),E.all.same s1,d1,?_⟩;rw [hg];exact fun v H2 s2 d2=>hF v H2 (s1.trans s2) d2
  | error z =>
   rw [hg] at hF;cases z with
   | none=>exact hF.elim
   | some x =>
    refine⟨Bm X O H1 x,Bz (J0.mono hF s1),O,ds,by rw [<- d1.length]; exact hn ds (by rw [hg]; intro z; cases z),E.all.same s1,d1,?_⟩;rw [hg];exact yv⟩
end
def Callee (P:S0) (w:SZ) (K:RL) (mg:Str->Option SY) (base:S5) (k:Nat) (x:Str) (ps:List Str) (g:List D->R D):Prop :=
 ∃ f fd,jI P w K mg base (oC P w) k f fd ps (Di K ps.length g)/\Binds K fd ps []/\RZ K (.ref f)=true/\mg x=some (.ref f)
def Ar (n:Nat) (g:List D->R D):Prop:=∀ ds,g ds≠un->ds.length=n
theorem J1 {X:Cx} {k k':Nat} {ps:List Str} {g:List D->R D} {h:aq->R (List D)} {x:Str} {p pos:Pos} {e:Tf} {es:List Tf}
  (C:Callee X.prog X.w X.K X.mg X.base k x ps g) (hn:Ar ps.length g) (hr:fN k' X.A) (hk:k<=k') (ha:FA X (e::es) h) (hg:Gl X x:=by rfl)
  (hdb:(x==("__debug__":Str))=false:=by decide) (hns:(e::es).all noStar=true:=by rfl) :
  FE X (.Call (.Name x p) (e::es) [] pos) (fR g h):=by
 obtain⟨f,fd,F,b,kp,m⟩:=C;exact PE.weak (Dm F (hr.mono hk) hg m kp b ha hdb (dH (PP _ _ ▸ hns).1) (gB (PP _ _ ▸ hns).2)) (CU hn)
def K0:Ks:={ nx:=fun _=>.ok .non }
def env0 (n:Nat) (ds:List D):aq:=ds.map (fun d=>some (.val d))++List.replicate (n - ds.length) none
def aG (B:cw) (np n:Nat):List D->R D:=fun ds=>if ds.length=np then B K0 (env0 n ds) else un
theorem aI {B:cw} {np n:Nat}:Ar np (aG B np n):=fun ds h=>by
 unfold aG at h;split at h
 ·assumption
 ·exact absurd rfl h
theorem jF {n:Nat} {ds:List D} (i:Nat) (x:S) (e:(env0 n ds)[i]?=some (some x)):∃ d,ds[i]?=some d/\x=.val d:=by
 unfold env0 at e;by_cases hi:i < ds.length
 ·rw [PD (by rw [Pr]; exact hi),PF,Qj hi] at e;have e':some (S.val ds[i])=some x:=Option.some.inj e;exact⟨ds[i],by rw [Qj hi],(Option.some.inj e').symm⟩
 ·rw [PB (by rw [Pr]; omega),Pr,PC] at e;split at e
  ·cases e
  ·cases e
theorem sq {K:RL} {O:List S3} {H:Hp} {N:List Str} {ds:List D} {vs:List V} (hO:eL H O) (h:aZ K (hid H O) ds vs):eG K O H (env0 N.length ds) (L2.start N vs):=by
 refine⟨fun i d e=>?_,fun i xs e=>?_,fun i j xs ys a e=>?_,hO⟩
 ·obtain⟨d',e1,e2⟩:=jF i _ e;cases e2;obtain⟨v,e3,e4⟩:=h.get e1;refine⟨v,?_,e4⟩;unfold L2.start;have hi:i < vs.length:=(List.getElem?_eq_some_iff.mp e3).1;rw [PD (by rw [Pr]; exact hi),PF,e3]; rfl
 ·obtain⟨d',_,e2⟩:=jF i _ e;cases e2
 ·obtain⟨d',_,e2⟩:=jF i _ e;cases e2
section
variable {P:S0} {w:SZ} {K:RL} {mg:Str->Option SY} {base:S5}
structure BodyOk (P:S0) (w:SZ) (K:RL) (mg:Str->Option SY) (base:S5) (k:Nat) (N:List Str) (qual:Str) (st:Th) (f:S3) (B:cw):Prop where
 h:∀ (cdv:SY) (A:Tb) (outer:List Env) (s:Tc) (H:Hp) (E:XK),fN k (A.deeper (SA qual (ax st) s.heap.objs.size f cdv))->Tr (model P w) (A.deeper (SA qual (ax st) s.heap.objs.size f cdv)) (SA qual (ax st) s.heap.objs.size f cdv) (j5 (oC P w) P w K mg base N qual (ax st) f cdv A outer s H E).xe ->
  zo (j5 (oC P w) P w K mg base N qual (ax st) f cdv A outer s H E) (fF st) B
theorem Mx {x qual:Str} {st:Th} {f:S3} {fd:TK} {N ps:List Str} {k:Nat} {sp:Sp} {CX:An} (F:wF K x qual st f fd) (S:aU N ps (ax st)) (len:∀ vs H Q E,sp vs H Q E->vs.length=ps.length)
  (hbody:∀ (cdv:SY) (A:Tb) (outer:List Env) (s:Tc) (H:Hp) (vs:List V) (Q:VK) (E:XK),fN k (A.deeper (SA qual (ax st) s.heap.objs.size f cdv))->sp vs H Q E ->
   ∃ t,x6 (j5 CX P w K mg base N qual (ax st) f cdv A outer s H E) (fF st) t/\t { nx:=fun _ H'=>Q .non H',rt:=Q } (L2.start N vs) H):jI P w K mg base CX (k+1) f fd ps sp:=by
 obtain⟨oc,od,kV,doc,pm,an,cdv,ct,osl,rfl,lk,hcd⟩:=F.ex;exact En lk hcd S len fun A outer s H vs Q E hr hsp=>hbody cdv A outer s H vs Q E hr hsp
theorem jI.any {CX:An} {k:Nat} {f:S3} {fd:TK} {ps:List Str} {sp:Sp} (F:jI P w K mg base LD k f fd ps sp):jI P w K mg base CX k f fd ps sp :=
 ⟨F.len,fun A outer s H args us vs Q E hr he hb hv hs=>TN (F.run A outer s H args us vs Q E hr he hb hv hs) fun r s' h=>by
  cases r with
  | error e=>exact False.elim h
  | ok fl=>cases fl <;> exact h⟩
theorem xh {x qual:Str} {st:Th} {f:S3} {fd:TK} {N ps:List Str} {k:Nat} {B:cw} (F:wF K x qual st f fd) (SC:aU N ps (ax st)) (hb:BodyOk P w K mg base k N qual st f B) :
  jI P w K mg base (oC P w) (k+1) f fd ps (Di K ps.length (aG B ps.length N.length)):=by
 refine Mx F SC (fun vs H Q E h=>?_) fun cdv A outer s H vs Q E hr h=>?_
 ·obtain⟨O,ds,h1,_⟩:=h;exact h1
 ·obtain⟨O,ds,h1,h2,h3,h4⟩:=h;have hl:ds.length=ps.length:=h3.length.trans h1;have e4:aG B ps.length N.length ds=B K0 (env0 N.length ds):=by unfold aG; rw [if_pos hl]
  rw [e4] at h4;refine⟨_,hb.h cdv A outer s H E hr PassesOwn.leaving H O,O,env0 N.length ds,K0,_,⟨sq h2 h3,⟨bn.refl H,fun _ z=>z,fun a z=>.inl z⟩,fun i xs a e=>?_,fun i d e=>by obtain⟨d',_,e2⟩:=jF i _ e; cases e2⟩,rfl,?_⟩
  ·obtain⟨d',_,e2⟩:=jF i _ e;cases e2
  ·generalize B K0 (env0 N.length ds)=r at h4;refine⟨fun z=>by rw [z] at h4; exact h4,fun O' ρ' σ' H' S e=>?_,fun O' ρ' σ' H' S e=>?_,fun O' ρ' σ' H' S e=>?_,fun d O' v H' e b dv=>?_,fun O' ρ' σ' H' x S e=>?_⟩
   ·have e:(.ok .non:R D)=r:=e;subst e;exact h4 .non H' S.base.same (lM.mpr rfl)
   ·have e:(un:R D)=r:=e;subst e;exact h4.elim
   ·have e:(un:R D)=r:=e;subst e;exact h4.elim
   ·subst e;exact h4 v H' b.same (dv.mono (iI b.sub))
   ·have e:(.error (some x):R D)=r:=e;subst e;exact D8 h4 S.base.same S.base.sub
theorem bC {x qual:Str} {st:Th} {f:S3} {fd:TK} {N ps:List Str} {k:Nat} {B:cw} (F:wF K x qual st f fd) (b:Binds K fd ps []) (m:mg x=some (.ref f)) (SC:aU N ps (ax st)) (hb:BodyOk P w K mg base k N qual st f B) :
  Callee P w K mg base (k+1) x ps (aG B ps.length N.length):=⟨f,fd,xh F SC hb,b,F.kp,m⟩
theorem gg {x qual:Str} {st:Th} {f:S3} {fd:TK} {ps:List Str} (k:Nat) (F:wF K x qual st f fd) (b:Binds K fd ps []) (m:mg x=some (.ref f)):Callee P w K mg base k x ps (fun _=>un):=by
 have no:∀ vs H Q E,¬ Di K ps.length (fun _=>un) vs H Q E:=fun vs H Q E ⟨O,ds,_,_,_,e⟩=>e;exact⟨f,fd,⟨fun vs H Q E h=>absurd h (no vs H Q E),fun A outer s H args us vs Q E _ _ _ _ h=>absurd h (no vs H Q E)⟩,b,F.kp,m⟩
end
theorem rM {K:RL} {T:String} (h1:R6 K (.type "NoneType") (.type T)=some (T == "NoneType")) (h2:R6 K (.type "bool") (.type T)=some (T == "bool" || T == "int")) (h3:R6 K (.type "int") (.type T)=some (T == "int")) (h4:R6 K (.type "str") (.type T)=some (T == "str"))
  (h5:R6 K (.type "tuple") (.type T)=some (T == "tuple")) (h6:R6 K (.type "list") (.type T)=some (T == "list")):yM K T:=fun d hd=>by
 cases d with
 | dct _ _=>cases hd
 | obj _ _ _=>cases hd
 | exc _ _ _=>cases hd
 | non=>exact h1
 | bl _=>exact h2
 | int _=>exact h3
 | str _=>exact h4
 | tup _=>exact h5
 | lst _=>exact h6
theorem yi {K:RL}:yM K "int":=rM rfl rfl rfl rfl rfl rfl
theorem jr {K:RL}:yM K "bool":=rM rfl rfl rfl rfl rfl rfl
theorem zh {K:RL}:yM K "str":=rM rfl rfl rfl rfl rfl rfl
theorem zU {K:RL}:yM K "tuple":=rM rfl rfl rfl rfl rfl rfl
end TG
namespace TG
open PySem PySem.Spec L2
variable [aX]

section
variable {X:Cx} {a b c:Tf} {fa fb fc:FX} {pos:Pos}
theorem Iq {r:V->Hp->VK->Prop} {g:D->Option D} (s:Gu X.K r g):∀ σ H Q,tF X (f1 g fa) σ H Q->Oi r (tF X fa) σ H Q:=fun σ H Q ⟨O,ρ,E,hF⟩=>⟨O,ρ,E,(jw.bind hF).imp fun a hF x H1 s1 d1=>by
 obtain⟨d,e,q⟩:=jw.rO hF;exact s a d x O H1 Q (E.all.same s1) e d1 fun v H2 s2 d2=>q v H2 (s1.trans s2) d2⟩
def Jf (g g':D->D->Option D) (fa fb fc:FX):FX:=fun ρ=>(fa ρ).bind fun x=>(fb ρ).bind fun y=>(rO (g x y)).bind fun z=>zW z ((fc ρ).bind fun w=>rO (g' y w))
def JS:D->Option D
 | .int i=>some (.int (-i))
 | _=>none
def C6 (f:FX):FX:=f1 JS f
theorem NP (ha:FE X a fa):FE X (.UnaryOp .USub a pos) (C6 fa):=PE.weak (Kb Ie ha) (Iq fun x d v O H Q _ e dv q=>by
 cases x with
 | int i=>cases e; exact⟨i,fW.mp dv,q _ H (bn.refl H) (fW.mpr rfl)⟩
 | _=>cases e)
theorem LX {x:Str} {i:Int} (hg:Gl X x) (hm:∃ t,X.mg x=some (.int i t)) (hd:(x==("__debug__":Str))=false:=by decide):FE X (.Name x pos) (fC (.int i)):=by
 obtain⟨t,m⟩:=hm;exact pj (FP (v:=.int i) hg m ⟨t,rfl⟩ hd) fun _ _=>fW.mpr rfl
def DQ:D->Option D
 | .str x=>if small x.length then some (.str (Txt.upper x)) else none
 | _=>none
def IV (f:FX):FX:=f1 DQ f
def IJ:D->Option D
 | .lst xs=>some (.lst xs.reverse)
 | .tup xs=>some (.tup xs.reverse)
 | _=>none
def MS (f:FX):FX:=f1 IJ f
theorem tX {K:RL} {H:Hp}:∀ {bs:List Bool} {vs:List V} {us:List SY},aZ K H (bs.map .bl) vs->Vals vs us->us=bs.map Value.bool
 | [],vs,us,h,r=>by
  rw [PX,cZ] at h;subst h;cases r;rfl
 | b::bs,vs,us,h,r=>by
  rw [Pq,bB] at h;obtain⟨v,r',e,h1,h2⟩:=h;subst e;cases r with
  | cons q1 q2 =>
   rw [lB] at h1;subst h1;cases q1;rw [Pq,tX h2 q2]
end

end TG
namespace ZI
open PySem PySem.Spec PyProof.Rows
section
variable {prog:S0} {w:SZ} {A:Tb} {E:SY->Tc->Prop} {s:Tc}
theorem zD {it t:S3} {i:Nat} {its:Array SY} {x:SY} {Q:SY->Tc->Prop} (hit:s.heap.IsTupleIter it t i) (ht:s.heap.IsTuple t its) (hx:its[i]?=some x)
  (hQ:∀ g,g.IsTupleIter it t (i+1)->Sl it s.heap g->Q x { s with heap:=g }):Te (model prog w) A (Builtin.SmallTypes.nextOf (.ref it)) Q E s:=by
 obtain⟨ob,h1,h2,h3⟩:=id hit;obtain⟨ol,g1,_,n,g2⟩:=ht;unfold Builtin.SmallTypes.nextOf;refine Tp (T6 (name:=Str.ofString "__next__") hit.typeIs F.slot_tuple_iterator_next (T7 F.slot_tuple_iterator_next hit.typeIs F.entry_tuple_iterator_next ?_ (F.args_tuple_iterator_next_1 _)));show Te _ _ (field (.ref it) 0 >>= _) _ _ s; refine Tp (T3 h1 h3 (x:=.ref t) rfl ?_);show Te _ _ (if (Value.ref t==Value.none)=true then _ else _) _ _ s; rw [if_neg (show ¬ ((Value.ref t==Value.none)=true) from fun z=>Pn z)];show Te _ _ (field (.ref it) 1 >>= _) _ _ s; refine Tp (T3 h1 h3 (x:=.int i 0) rfl ?_);show Te _ _ (seqItems? (.ref t) >>= _) _ _ s; refine Tp (Uk g1 g2 ?_);simp only [PL,hx];refine Tp (Ul h1 h3 (by simp) (To ⟨x,rfl,To (hQ _ ⟨_,Ss _ h1 (Obj.isFreed_of_fields (Obj.data_mapFields h3 _)),(Obj.cls_mapFields ..).trans h2,by rw [Obj.data_mapFields h3]; simp [rawInt]⟩ (Heap.SameBut.update ..))⟩))
theorem CV {it t:S3} {i:Nat} {its:Array SY} {Q:SY->Tc->Prop} (hh:A.handled=none) (hit:s.heap.IsTupleIter it t i) (ht:s.heap.IsTuple t its) (hx:its[i]?=none)
  (hE:∀ g e,Su it s.heap g->(∃ o,g.get? e=some o/\o.cls=.type "StopIteration")->E (.ref e) { s with heap:=g }):Te (model prog w) A (Builtin.SmallTypes.nextOf (.ref it)) Q E s:=by
 obtain⟨ob,h1,h2,h3⟩:=id hit;obtain⟨ol,g1,_,n,g2⟩:=ht;unfold Builtin.SmallTypes.nextOf;refine Tp (T6 (name:=Str.ofString "__next__") hit.typeIs F.slot_tuple_iterator_next (T7 F.slot_tuple_iterator_next hit.typeIs F.entry_tuple_iterator_next ?_ (F.args_tuple_iterator_next_1 _)));show Te _ _ (field (.ref it) 0 >>= _) _ _ s; refine Tp (T3 h1 h3 (x:=.ref t) rfl ?_);show Te _ _ (if (Value.ref t==Value.none)=true then _ else _) _ _ s; rw [if_neg (show ¬ ((Value.ref t==Value.none)=true) from fun z=>Pn z)];show Te _ _ (field (.ref it) 1 >>= _) _ _ s; refine Tp (T3 h1 h3 (x:=.int i 0) rfl ?_);show Te _ _ (seqItems? (.ref t) >>= _) _ _ s; refine Tp (Uk g1 g2 ?_);simp only [PL,hx]; refine Tp (Uh (Tp (Ul h1 h3 (by simp) ?_)));show Te _ _ (newExc (.type "StopIteration") [] >>= _) _ _ _; refine Tp ?_;simp only [newExc,newTuple]; refine Tp (T9 ?_ (by size_fits));refine Tp (m:=firstArgMember _ _) (wpAny_of_eq (a:=Value.none) (by first | rfl | (simp only [firstArgMember]; rfl)) ?_); refine T9 ?_ (by size_fits);simp only [raiseNew]; refine Tp (Um ?_)
 first | rw [show A.in1.handled=none from hh] | rw [hh]
 refine Tp (To (wpAny_throw ?_)); exact hE _ _ (((Heap.SameBut.update ..).extBut.push _).push _) ⟨_,Sq _ rfl,rfl⟩
end
theorem Ii {prog:S0} {w:SZ} {A:Tb} (hh:A.handled=none) (it t:S3) (hne:t≠it) (its:Array SY):Draws prog w A it [it,t] its.size (fun i v=>its[i]?=some v) (fun i h=>h.IsTupleIter it t i/\h.IsTuple t its) where
 live:=fun i h ⟨⟨o,e,_⟩,_⟩=>⟨o,e⟩
 frame:=fun i h h' ⟨x,y⟩ k=>⟨x.at fun o e=>k it (by simp) o e,let ⟨o,e,r⟩:=y; ⟨o,k t (by simp) o e,r⟩⟩
 item:=fun i s Q E hi ⟨x,y⟩ hQ=>zD x y (Array.getElem?_eq_getElem hi) fun g hg hs=>hQ _ g s.toks (Array.getElem?_eq_getElem hi) ⟨hg,let ⟨o,e,r⟩:=y; ⟨o,(hs.2 t hne).trans e,r⟩⟩ hs
 done:=fun s Q E ⟨x,y⟩ hE=>CV hh x y (by simp) hE

structure Apart (z TI TO i1 i2:S3) (fp1 fp2:List S3):Prop where
 a1:TI≠z
 a2:TO≠z
 a3:TI≠TO
 b1:z∉fp1
 b2:TO∉fp1
 b3:i2∉fp1
 c1:z∉fp2
 c2:TO∉fp2
 c3:i1∉fp2
 d1:TI≠i1
 d2:TI≠i2
 e1:i1∈fp1
 e2:i2∈fp2
section
variable {prog:S0} {w:SZ} {A:Tb} {E:SY->Tc->Prop} {s:Tc} {z TI TO i1 i2:S3} {fp1 fp2:List S3} {n1 n2 i:Nat} {P1 P2:Nat->SY->Prop} {S1 S2:Nat->S5->Prop} {a b:SY}
theorem next_item {Q:SY->Tc->Prop} (Ap:Apart z TI TO i1 i2 fp1 fp2) (D1:Draws prog w A i1 fp1 n1 P1 S1) (D2:Draws prog w A i2 fp2 n2 P2 S2) (hz:Uo s.heap z TI TO .none) (hTI:Uq s.heap TI (.ref i1) (.ref i2)) (hTO:Uq s.heap TO a b) (st1:S1 i s.heap) (st2:S2 i s.heap) (l1:i < n1) (l2:i < n2)
  (hQ:∀ x y g tk,P1 i x->P2 i y->Uo g z TI TO (rawInt s.heap.objs.size)->Uq g TO x y->S1 (i+1) g->S2 (i+1) g->Uq g s.heap.objs.size x y->g.objs.size=s.heap.objs.size+1 ->
   (∀ c o,c≠z->c≠TO->c≠i1->c≠i2->s.heap.get? c=some o->g.get? c=some o)->Q (.ref s.heap.objs.size) { s with heap:=g,toks:=tk }) :
  Te (model prog w) A (Builtin.«zip.__next__» ⟨[.ref z],[]⟩) (fun fin s'=>∃ v,fin=.done (.ret v)/\Q v s') E s:=by
 have n1z:i1≠z:=fun e=>Ap.b1 (e ▸ Ap.e1);have n2z:i2≠z:=fun e=>Ap.c1 (e ▸ Ap.e2);have n1T:i1≠TO:=fun e=>Ap.b2 (e ▸ Ap.e1);have n2T:i2≠TO:=fun e=>Ap.c2 (e ▸ Ap.e2);show Te _ _ (field (.ref z) 2 >>= _) _ _ _; refine Tp (T3 hz rfl (x:=.bool false) rfl ?_);show Te _ _ (field (.ref z) 3 >>= _) _ _ _; refine Tp (T3 hz rfl (x:=.ref TI) rfl ?_); refine Tp (Uk hTI rfl ?_);show Te _ _ (Builtin.SmallTypes.ownedTupleIsFree (.ref z) >>= _) _ _ _; refine Tp ?_;unfold Builtin.SmallTypes.ownedTupleIsFree; refine Tp (T3 hz rfl (x:=.none) rfl (To ?_));simp only [if_true]; refine Tp (Uh ?_); refine Tp (T3 hz rfl (x:=.ref TO) rfl ?_);refine Tp (Ur hz (by simp) fun g1 hz1 k1=>?_);have hz1:Uo g1 z TI TO .ellipsis:=hz1;refine Tp ?_; simp only [List.zipIdx_cons,List.zipIdx_nil,P8,List.forIn_nil];refine Tp (Tp (Us ?_)); show Te _ _ (Builtin.SmallTypes.nextOf (.ref i1) >>= _) _ _ _;have q1:S1 i g1:=D1.frame _ _ _ st1 fun b hb o e=>k1.extBut _ _ (fun z'=>Ap.b1 (z' ▸ hb)) e;refine Tp (D1.item i { s with heap:=g1 } _ _ l1 q1 fun x g2 tk2 p1 q2 k2=>To ?_);have t2:Uq g2 TO a b:=k2.extBut _ _ n1T.symm (k1.extBut _ _ Ap.a2 hTO);refine Tp (Uk t2 rfl ?_); refine Tp (Ut t2 fun g3 t3 k3=>?_);have t3:Uq g3 TO x b:=t3;refine Tp (Uu (To ?_)); refine Tp (Tp (Us ?_)); show Te _ _ (Builtin.SmallTypes.nextOf (.ref i2) >>= _) _ _ _;have q3:S2 i g3:=D2.frame _ _ _ st2 fun b hb o e=>k3.extBut _ _ (fun z'=>Ap.c2 (z' ▸ hb)) (k2.extBut _ _ (fun z'=>Ap.c3 (z' ▸ hb)) (k1.extBut _ _ (fun z'=>Ap.c1 (z' ▸ hb)) e));refine Tp (D2.item i { s with heap:=g3,toks:=tk2 } _ _ l2 q3 fun y g4 tk4 p2 q4 k4=>To ?_);have t4:Uq g4 TO x b:=k4.extBut _ _ n2T.symm t3;refine Tp (Uk t4 rfl ?_); refine Tp (Ut t4 fun g5 t5 k5=>?_);have t5:Uq g5 TO x y:=t5;refine Tp (Uu (To (To ?_))); refine Tp (Uk t5 rfl ?_); refine Tp (Uv ?_);have hsz:g5.objs.size=s.heap.objs.size:=by rw [k5.1,k4.1,k3.1,k2.1,k1.1]
 have hz5:Uo g5 z TI TO .ellipsis:=k5.extBut _ _ Ap.a2.symm (k4.extBut _ _ n2z.symm (k3.extBut _ _ Ap.a2.symm (k2.extBut _ _ n1z.symm hz1)));have k15:∀ c o,c≠z->c≠TO->c≠i1->c≠i2->s.heap.get? c=some o->g5.get? c=some o:=fun c o c1 c2 c3 c4 e=>k5.extBut _ _ c2 (k4.extBut _ _ c4 (k3.extBut _ _ c2 (k2.extBut _ _ c3 (k1.extBut _ _ c1 e))));have r1:S1 (i+1) g5:=D1.frame _ _ _ q2 fun b hb o e=>k5.extBut _ _ (fun z'=>Ap.b2 (z' ▸ hb)) (k4.extBut _ _ (fun z'=>Ap.b3 (z' ▸ hb)) (k3.extBut _ _ (fun z'=>Ap.b2 (z' ▸ hb)) e));have r2:S2 (i+1) g5:=D2.frame _ _ _ q4 fun b hb o e=>k5.extBut _ _ (fun z'=>Ap.c2 (z' ▸ hb)) e;have lz:z < g5.objs.size:=Si hz5;show Te _ _ (Builtin.SmallTypes.ownedTupleHandOut (.ref z) (.ref g5.objs.size) >>= _) _ _ _; refine Tp ?_;unfold Builtin.SmallTypes.ownedTupleHandOut;have hz6:Uo (g5.push { cls:=.type "tuple",data:=.seq #[x,y] }) z TI TO .ellipsis:=Sn _ hz5;refine Tp (Ur hz6 (by simp) fun g7 hz7 k7=>?_);have hz7:Uo g7 z TI TO (rawInt g5.objs.size):=hz7;refine Ur hz7 (by simp) fun g8 hz8 k8=>?_;have hz8:Uo g8 z TI TO (rawInt g5.objs.size):=hz8;have up:∀ c o,c≠z->g5.get? c=some o->g8.get? c=some o:=fun c o c1 e=>k8.extBut _ _ c1 (k7.extBut _ _ c1 (Sn _ e));have t8:Uq g8 g5.objs.size x y:=k8.extBut _ _ (Pb lz) (k7.extBut _ _ (Pb lz) (Sq _ rfl));have s8:g8.objs.size=g5.objs.size+1:=by rw [k8.1,k7.1,Sr]
 rw [hsz] at hz8 t8 s8;refine To ⟨_,rfl,?_⟩;show Q (.ref g5.objs.size) _;rw [hsz];exact hQ x y g8 tk4 p1 p2 hz8 (up _ _ Ap.a2 t5) (D1.frame _ _ _ r1 fun b hb o e=>up b o (fun z'=>Ap.b1 (z' ▸ hb)) e) (D2.frame _ _ _ r2 fun b hb o e=>up b o (fun z'=>Ap.c1 (z' ▸ hb)) e) t8 s8 fun c o c1 c2 c3 c4 e=>up c o c1 (k15 c o c1 c2 c3 c4 e)
theorem next_end {Q:Fin->Tc->Prop} (Ap:Apart z TI TO i1 i2 fp1 fp2) (D1:Draws prog w A i1 fp1 n1 P1 S1) (D2:Draws prog w A i2 fp2 n2 P2 S2) (hz:Uo s.heap z TI TO .none) (hTI:Uq s.heap TI (.ref i1) (.ref i2)) (hTO:Uq s.heap TO a b) (st1:S1 i s.heap) (st2:S2 i s.heap) (hend:i=n1\/(i < n1/\i=n2))
  (hE:∀ g e tk,(∀ c o,c≠z->c≠TO->c≠i1->c≠i2->s.heap.get? c=some o->g.get? c=some o)->(∃ o,g.get? e=some o/\o.cls=.type "StopIteration")->E (.ref e) { s with heap:=g,toks:=tk }) :
  Te (model prog w) A (Builtin.«zip.__next__» ⟨[.ref z],[]⟩) Q E s:=by
 have n1z:i1≠z:=fun e=>Ap.b1 (e ▸ Ap.e1);have n2z:i2≠z:=fun e=>Ap.c1 (e ▸ Ap.e2);have n1T:i1≠TO:=fun e=>Ap.b2 (e ▸ Ap.e1);show Te _ _ (field (.ref z) 2 >>= _) _ _ _; refine Tp (T3 hz rfl (x:=.bool false) rfl ?_);show Te _ _ (field (.ref z) 3 >>= _) _ _ _; refine Tp (T3 hz rfl (x:=.ref TI) rfl ?_); refine Tp (Uk hTI rfl ?_);show Te _ _ (Builtin.SmallTypes.ownedTupleIsFree (.ref z) >>= _) _ _ _; refine Tp ?_;unfold Builtin.SmallTypes.ownedTupleIsFree; refine Tp (T3 hz rfl (x:=.none) rfl (To ?_));simp only [if_true]; refine Tp (Uh ?_); refine Tp (T3 hz rfl (x:=.ref TO) rfl ?_);refine Tp (Ur hz (by simp) fun g1 hz1 k1=>?_);have hz1:Uo g1 z TI TO .ellipsis:=hz1;refine Tp ?_; simp only [List.zipIdx_cons,List.zipIdx_nil,P8,List.forIn_nil];refine Tp (Tp (Us ?_)); show Te _ _ (Builtin.SmallTypes.nextOf (.ref i1) >>= _) _ _ _;have q1:S1 i g1:=D1.frame _ _ _ st1 fun b hb o e=>k1.extBut _ _ (fun z'=>Ap.b1 (z' ▸ hb)) e;rcases hend with hend | ⟨l1,hend⟩
 ·subst hend;refine Tp (D1.done { s with heap:=g1 } _ _ q1 fun g2 e k2 he=>?_);obtain⟨oe,hoe,hce⟩:=he;have hz2:Uo g2 z TI TO .ellipsis:=k2 _ _ n1z.symm hz1;have hez:e≠z:=fun x=>by rw [x,hz2] at hoe; cases hoe; simp at hce
  exact Ur hz2 (by simp) fun g3 _ k3=>hE g3 e s.toks (fun c o c1 _ c3 _ x=>k3.extBut _ _ c1 (k2 _ _ c3 (k1.extBut _ _ c1 x))) ⟨oe,k3.extBut _ _ hez hoe,hce⟩
 ·refine Tp (D1.item i { s with heap:=g1 } _ _ l1 q1 fun x g2 tk2 p1 q2 k2=>To ?_);have t2:Uq g2 TO a b:=k2.extBut _ _ n1T.symm (k1.extBut _ _ Ap.a2 hTO);refine Tp (Uk t2 rfl ?_); refine Tp (Ut t2 fun g3 t3 k3=>?_);refine Tp (Uu (To ?_)); refine Tp (Tp (Us ?_)); show Te _ _ (Builtin.SmallTypes.nextOf (.ref i2) >>= _) _ _ _;have q3:S2 i g3:=D2.frame _ _ _ st2 fun b hb o e=>k3.extBut _ _ (fun z'=>Ap.c2 (z' ▸ hb)) (k2.extBut _ _ (fun z'=>Ap.c3 (z' ▸ hb)) (k1.extBut _ _ (fun z'=>Ap.c1 (z' ▸ hb)) e));subst hend;refine Tp (D2.done { s with heap:=g3,toks:=tk2 } _ _ q3 fun g4 e k4 he=>?_);obtain⟨oe,hoe,hce⟩:=he;have hz4:Uo g4 z TI TO .ellipsis:=k4 _ _ n2z.symm (k3.extBut _ _ Ap.a2.symm (k2.extBut _ _ n1z.symm hz1));have hez:e≠z:=fun x=>by rw [x,hz4] at hoe; cases hoe; simp at hce
  exact Ur hz4 (by simp) fun g5 _ k5=>hE g5 e tk2 (fun c o c1 c2 c3 c4 x=>k5.extBut _ _ c1 (k4 _ _ c4 (k3.extBut _ _ c2 (k2.extBut _ _ c3 (k1.extBut _ _ c1 x))))) ⟨oe,k5.extBut _ _ hez hoe,hce⟩
end
def SQ (b:Bool) (h:S5) (l:S3) (xs:Array SY):Prop:=if b then h.IsList l xs else h.IsTuple l xs
def SI (b:Bool) (h:S5) (i l:S3) (k:Nat):Prop:=if b then h.IsListIter i l k else h.IsTupleIter i l k
def LK (b:Bool):String:=if b then "list_iterator" else "tuple_iterator"
theorem SQ.keep {b:Bool} {h h':S5} {l:S3} {xs:Array SY} (x:SQ b h l xs) (k:∀ o,h.get? l=some o->h'.get? l=some o):SQ b h' l xs:=by
 cases b with
 | true=>exact Heap.IsList.at x k
 | false=>obtain⟨o,e,r⟩:=(show h.IsTuple l xs from x); exact(show h'.IsTuple l xs from ⟨o,k o e,r⟩)
theorem SI.keep {b:Bool} {h h':S5} {i l:S3} {n:Nat} (x:SI b h i l n) (k:∀ o,h.get? i=some o->h'.get? i=some o):SI b h' i l n:=by
 cases b with
 | true=>exact Heap.IsListIter.at x k
 | false=>exact Heap.IsTupleIter.at x k
theorem SQ.lt {b:Bool} {h:S5} {l:S3} {xs:Array SY} (x:SQ b h l xs):l < h.objs.size:=by
 cases b with
 | true=>obtain⟨o,e,_⟩:=(show h.IsList l xs from x); exact Si e
 | false=>obtain⟨o,e,_⟩:=(show h.IsTuple l xs from x); exact Si e
theorem SI.get {b:Bool} {h:S5} {i l:S3} {n:Nat} (x:SI b h i l n):∃ o,h.get? i=some o/\∀ v,o.data≠.cell v:=by
 cases b with
 | true=>obtain⟨o,e,_,d⟩:=(show h.IsListIter i l n from x); exact⟨o,e,fun v z=>by rw [d] at z; cases z⟩
 | false=>obtain⟨o,e,_,d⟩:=(show h.IsTupleIter i l n from x); exact⟨o,e,fun v z=>by rw [d] at z; cases z⟩
theorem SI.new {b:Bool} {h:S5} {l:S3}:SI b (h.push { cls:=.type (LK b),data:=.fields #[.ref l,.int 0 0] }) h.objs.size l 0:=by
 cases b with
 | true=>exact⟨_,Sq _ rfl,rfl,rfl⟩
 | false=>exact⟨_,Sq _ rfl,rfl,rfl⟩
theorem tZ {b:Bool} {prog:S0} {w:SZ} {A:Tb} {E:SY->Tc->Prop} {s:Tc} {l:S3} {xs:Array SY} {Q:SY->Tc->Prop} (h:SQ b s.heap l xs)
  (hQ:Q (.ref s.heap.objs.size) { s with heap:=s.heap.push { cls:=.type (LK b),data:=.fields #[.ref l,.int 0 0] } }):Te (model prog w) A (pyIter (.ref l)) Q E s:=by
 cases b with
 | true=>exact Tq h hQ
 | false=>exact wpAny_pyIter_tuple h hQ
theorem ot {prog:S0} {w:SZ} {A:Tb} (b:Bool) (hh:A.handled=none) (it l:S3) (hne:l≠it) (its:Array SY):Draws prog w A it [it,l] its.size (fun i v=>its[i]?=some v) (fun i h=>SI b h it l i/\SQ b h l its):=by
 cases b with
 | true=>exact Draws.list hh it l hne its
 | false=>exact Ii hh it l hne its
abbrev Dk (b1:Bool) (h:S5) (l1:S3):S5:=h.push { cls:=.type (LK b1),data:=.fields #[.ref l1,.int 0 0] }
abbrev La (b1 b2:Bool) (h:S5) (l1 l2:S3):S5:=(Dk b1 h l1).push { cls:=.type (LK b2),data:=.fields #[.ref l2,.int 0 0] }
abbrev LV (b1 b2:Bool) (h:S5) (l1 l2:S3):S5:=(La b1 b2 h l1 l2).push { cls:=.type "tuple",data:=.seq #[.ref h.objs.size,.ref (Dk b1 h l1).objs.size] }
abbrev LN (b1 b2:Bool) (h:S5) (l1 l2:S3):S5:=(LV b1 b2 h l1 l2).push { cls:=.type "tuple",data:=.seq #[.none,.none] }
abbrev Hy (b1 b2:Bool) (h:S5) (l1 l2:S3):S5:=(LN b1 b2 h l1 l2).push { cls:=.type "zip",data:=.fields #[.none,.bool false,.bool false,.ref (La b1 b2 h l1 l2).objs.size,.ref (LV b1 b2 h l1 l2).objs.size] }
theorem Dr (b1 b2:Bool) (l1 l2:S3) (xs ys:Array SY):Meets (Builtin.«zip.__new__» ⟨[.type "zip",.ref l1,.ref l2],[]⟩) (fun _ R s=>SQ b1 s.heap l1 xs/\SQ b2 s.heap l2 ys/\R (.ok (.ret (.ref (LN b1 b2 s.heap l1 l2).objs.size))) { s with heap:=Hy b1 b2 s.heap l1 l2 }) :=
 .of_wp fun prog w A R s h=>by
  obtain⟨hp,g,d,tk,os⟩:=s;obtain⟨q1,q2,h⟩:=h;have hsub:=sub_zip;have e1:SQ b1 (Shared.heap ⟨hp,g,d,tk,os⟩) l1 xs:=q1;have e2:SQ b2 (Shared.heap ⟨Dk b1 hp l1,g,d,tk,os⟩) l2 ys:=q2.keep fun o e=>Sn _ e
  wp_walk using tZ e1,tZ e2
  exact⟨_,rfl,h⟩
theorem Ec {prog:S0} {w:SZ} {A:Tb} {E:SY->Tc->Prop} {s:Tc} {b1 b2:Bool} {l1 l2:S3} {xs ys:Array SY} {Q:SY->Tc->Prop} (h1:SQ b1 s.heap l1 xs) (h2:SQ b2 s.heap l2 ys)
  (h:∀ g,Uo g (s.heap.objs.size+4) (s.heap.objs.size+2) (s.heap.objs.size+3) .none->Uq g (s.heap.objs.size+2) (.ref s.heap.objs.size) (.ref (s.heap.objs.size+1))->Uq g (s.heap.objs.size+3) .none .none->SI b1 g s.heap.objs.size l1 0->SI b2 g (s.heap.objs.size+1) l2 0 ->
   (∀ c o,s.heap.get? c=some o->g.get? c=some o)->Q (.ref (s.heap.objs.size+4)) { s with heap:=g }):Te (model prog w) A (call (.type "zip") [.ref l1,.ref l2]) Q E s:=by
 refine callType_new F.called_zip (by decide) (F.typeCall_zip_2 _ _) (F.newCall_zip_2 _ _) (fun obj=>F.args_object_init_3 obj _ _) F.entry_zip_new (Dr b1 b2 l1 l2 xs ys) ⟨h1,h2,?_⟩;have z1:(Dk b1 s.heap l1).objs.size=s.heap.objs.size+1:=Sr ..
 have z2:(La b1 b2 s.heap l1 l2).objs.size=s.heap.objs.size+2:=by rw [Sr,z1]
 have z3:(LV b1 b2 s.heap l1 l2).objs.size=s.heap.objs.size+3:=by rw [Sr,z2]
 have z4:(LN b1 b2 s.heap l1 l2).objs.size=s.heap.objs.size+4:=by rw [Sr,z3]
 have u1:∀ c o,(Dk b1 s.heap l1).get? c=some o->(Hy b1 b2 s.heap l1 l2).get? c=some o:=fun c o e=>Sn _ (Sn _ (Sn _ (Sn _ e)));have u2:∀ c o,(La b1 b2 s.heap l1 l2).get? c=some o->(Hy b1 b2 s.heap l1 l2).get? c=some o:=fun c o e=>Sn _ (Sn _ (Sn _ e));have g5:(Hy b1 b2 s.heap l1 l2).get? (LN b1 b2 s.heap l1 l2).objs.size=some _:=Sq _ rfl;have g4:(Hy b1 b2 s.heap l1 l2).get? (LV b1 b2 s.heap l1 l2).objs.size=some _:=Sn _ (Sq _ rfl);have g3:(Hy b1 b2 s.heap l1 l2).get? (La b1 b2 s.heap l1 l2).objs.size=some _:=Sn _ (Sn _ (Sq _ rfl));have g2:SI b2 (Hy b1 b2 s.heap l1 l2) (Dk b1 s.heap l1).objs.size l2 0:=SI.keep (SI.new (h:=Dk b1 s.heap l1)) fun o e=>u2 _ o e;have g1:SI b1 (Hy b1 b2 s.heap l1 l2) s.heap.objs.size l1 0:=SI.keep SI.new fun o e=>u1 _ o e;show _/\_;rw [z2,z3,z4] at g5;rw [z1,z2] at g3;rw [z3] at g4;rw [z1] at g2;rw [z4];exact⟨⟨_,g5,rfl⟩,h _ g5 g3 g4 g1 g2 fun c o e=>u1 c o (Sn _ e)⟩
theorem B8 (b : Bool) (l : S3) (xs : Array SY) : Meets (Builtin.«enumerate.__new__» ⟨[.type "enumerate", .ref l], []⟩) (fun _ R s => SQ b s.heap l xs /\
      R (.ok (.ret (.ref (Dk b s.heap l).objs.size))) { s with heap:=(Dk b s.heap l).push { cls:=.type "enumerate",data:=.fields #[.none,.bool false,.ref s.heap.objs.size,rawInt 0,.none,.none] } }) :=
  .of_wp fun prog w A R s h=>by
    obtain⟨hp,g,d,tk,os⟩:=s;obtain⟨q1,h⟩:=h;have hsub:=sub_enumerate;have e1:SQ b (Shared.heap ⟨hp,g,d,tk,os⟩) l xs:=q1
    wp_walk using tZ e1
    refine wpAny_stack_any fun st=>To ?_;split
    · rename_i c _ _ _ _ _
      cases (c==Value.type "enumerate") <;> (wp_walk using tZ e1; exact⟨_,rfl,h⟩)
    · wp_walk using tZ e1
      exact⟨_,rfl,h⟩
end ZI
namespace TG
open PySem PySem.Spec L2 ZI
variable [aX]
section
variable {X:Cx} {pins:List (S3×Obj)} {σ:St} {H:Hp} {s:Tc} {h':S5}
theorem Inv.turnedL {ch:List S3} {p:S3} {o:HO} {t':Nat} (I:Inv X pins σ H s) (hf:∀ b∈ch,uI X pins H b) (k:∀ b u,b∉ch->s.heap.get? b=some u->h'.get? b=some u) (hp:s.heap.objs.size<=p) (new:cK X.prog X.w (upd H p o) h' p o) :
  Inv X pins σ (upd H p o) { s with heap:=h',toks:=t' }:=by
 have hn:=I.hok.fresh hp;have nch:∀ b u,H b=some u->b∉ch:=fun b u e z=>by rw [(hf b z).1] at e; cases e
 refine I.step (g':=s.gens) (d':=s.drawn) (ch:=ch) (fun b hb=>?_) (fun b o _ _ hc e _=>k b o hc e) (fun b o _ _ hc e _=>⟨o.slots,k b o hc e⟩) (fun b u _ q n=>by rw [aE (O1 (OZ (Si q) hp))]; exact n)
  (fun b o hc e=>⟨o,k b o hc e⟩) (fun b xs q=>by rw [aE (bc q hn)]; exact q) (fun b u xs q=>by rw [aE (bc q hn)]; exact q) (fun b ps q=>⟨#[],by rw [aE (bc q hn),q]; simp⟩) (fun m hm=>?_) (fun b u e=>?_) I.bare
 ·obtain⟨_,f1,_,f3,f4,f5⟩:=hf b hb;exact⟨f3,f1,f4,f5⟩
 ·obtain⟨o,es,ep,ho,r⟩:=hm;exact⟨o,es,ep,k _ o (fun z=>(hf _ z).2.1 rfl) ho,r⟩
 ·by_cases hb:b=p
  ·subst hb; rw [aQ] at e; cases e; exact new
  ·rw [aE hb] at e;refine(I.hok b u e).stay (fun c v hc q=>k c v ?_ q) (fun c q=>by rw [aE (bc q hn)]; exact q) fun c xs q=>by rw [aE (bc q hn)]; exact q
   rcases hc with z | z
   ·rw [z]; exact nch b u e
   ·exact nch c _ z
theorem Inv.turned0 {ch:List S3} {t':Nat} (I:Inv X pins σ H s) (hf:∀ b∈ch,uI X pins H b) (k:∀ b u,b∉ch->s.heap.get? b=some u->h'.get? b=some u):Inv X pins σ H { s with heap:=h',toks:=t' }:=by
 have nch:∀ b u,H b=some u->b∉ch:=fun b u e z=>by rw [(hf b z).1] at e; cases e
 refine I.step (g':=s.gens) (d':=s.drawn) (ch:=ch) (fun b hb=>?_) (fun b o _ _ hc e _=>k b o hc e) (fun b o _ _ hc e _=>⟨o.slots,k b o hc e⟩) (fun _ _ _ _ n=>n)
  (fun b o hc e=>⟨o,k b o hc e⟩) (fun _ _ e=>e) (fun _ _ _ e=>e) (fun b ps e=>⟨#[],by rw [e]; simp⟩) (fun m hm=>?_) (fun b u e=>?_) I.bare
 ·obtain⟨_,f1,_,f3,f4,f5⟩:=hf b hb;exact⟨f3,f1,f4,f5⟩
 ·obtain⟨o,es,ep,ho,r⟩:=hm;exact⟨o,es,ep,k _ o (fun z=>(hf _ z).2.1 rfl) ho,r⟩
 ·refine(I.hok b u e).stay (fun c v hc q=>k c v ?_ q) (fun _ q=>q) fun _ _ q=>q;rcases hc with z | z
  ·rw [z]; exact nch b u e
  ·exact nch c _ z
end
def SX (K:RL) (b:Bool) (H:Hp) (a:S3) (xs:List V):Prop:=if b then oZ K H a xs else p8 K H a xs
theorem SX.same {K:RL} {b:Bool} {H H':Hp} {a:S3} {xs:List V} (e:bn H H') (h:SX K b H a xs):SX K b H' a xs:=by
 cases b with
 | true=>exact e.seq (show oZ K H a xs from h)
 | false=>exact B4 e (show p8 K H a xs from h)
section
variable {X:Cx} {pins:List (S3×Obj)} {σ:St} {H:Hp} {s:Tc}
theorem Inv.sx (I:Inv X pins σ H s) {b:Bool} {a:S3} {xs:List V} (h:SX X.K b H a xs):∃ its:List SY,Vals xs its/\SQ b s.heap a its.toArray/\xs.length<=S6:=by
 cases b with
 | true=>obtain⟨its,r,p,z⟩:=I.list (show oZ X.K H a xs from h); exact⟨its,r,p.isList,z⟩
 | false=>obtain⟨its,r,p,z⟩:=I.tuple (show p8 X.K H a xs from h); exact⟨its,r,p,z⟩
theorem Inv.sx_inj (I:Inv X pins σ H s) {b:Bool} {a:S3} {xs ys:List V} (h:SX X.K b H a xs) (h':SX X.K b H a ys):xs=ys:=by
 cases b with
 | true=>exact I.list_inj h h'
 | false=>exact I.tuple_inj h h'
end
def Oz (K:RL) (b1 b2:Bool) (a1 a2:S3):It :=
  ⟨fun i H=>∃ xs ys,SX K b1 H a1 xs/\SX K b2 H a2 ys/\i < xs.length/\i < ys.length,
   fun i H v H'=>∃ p x y,v=.ref p/\H p=none/\H'=upd H p (.tup [x,y])/\(∀ xs,SX K b1 H a1 xs->xs[i]?=some x)/\∀ ys,SX K b2 H a2 ys->ys[i]?=some y,
   fun i H=>∃ xs ys,SX K b1 H a1 xs/\SX K b2 H a2 ys/\(i=xs.length\/(i < xs.length/\i=ys.length))⟩
theorem Ei {P:S0} {w:SZ} {K:RL} {es:List Tf} {k:Nat} {pos:Pos} {b1 b2:Bool} {a1 a2 z TI TO i1 i2:S3} (Ap:Apart z TI TO i1 i2 [i1,a1] [i2,a2]) (n1:a1≠i1) (n2:a2≠i2) (n3:z≠i1) (n4:z≠i2):Turn P w K (.Tuple es k pos) (Oz K b1 b2 a1 a2) [z,TI,TO,i1,i2] z
  (fun i h=>Uo h z TI TO .none/\Uq h TI (.ref i1) (.ref i2)/\(∃ a b,Uq h TO a b)/\SI b1 h i1 a1 i/\SI b2 h i2 a2 i) where
 mem:=by simp
 obj:=fun i h ⟨hz,hI,⟨a,b,hO⟩,s1,s2⟩ c hc=>by
  simp only [Qz,QA,or_false] at hc;rcases hc with rfl | rfl | rfl | rfl | rfl
  ·exact⟨_,hz,fun v q=>by cases q⟩
  ·exact⟨_,hI,fun v q=>by cases q⟩
  ·exact⟨_,hO,fun v q=>by cases q⟩
  ·exact s1.get
  ·exact s2.get
 keep:=fun i h h' ⟨hz,hI,⟨a,b,hO⟩,s1,s2⟩ kp=>⟨kp z (by simp) _ hz,kp TI (by simp) _ hI,⟨a,b,kp TO (by simp) _ hO⟩,s1.keep fun o e=>kp i1 (by simp) o e,s2.keep fun o e=>kp i2 (by simp) o e⟩
 item:=by
  intro X hP hw hK hc i pins s σ H E I hf ⟨hz,hI,⟨a,b,hO⟩,s1,s2⟩ hg;subst hP hw hK;obtain⟨xs,ys,g1,g2,l1,l2⟩:=hg;obtain⟨its1,r1,q1,z1⟩:=Inv.sx I g1;obtain⟨its2,r2,q2,z2⟩:=Inv.sx I g2;have hh:X.A.in1.handled=none:=I.ok.hd hc;have hT:s.TypeIs (.ref z) "zip":=⟨_,hz,rfl⟩
  unfold pyNext;refine Tp (Uw (T6 (name:=Str.ofString "__next__") hT F.slot_zip_next (T7 F.slot_zip_next hT F.entry_zip_next
   (next_item Ap (ot (A:=X.A.in1) b1 hh i1 a1 n1 its1.toArray) (ot (A:=X.A.in1) b2 hh i2 a2 n2 its2.toArray) hz hI hO ⟨s1,q1⟩ ⟨s2,q2⟩ (by rw [Pm,<- r1.length]; exact l1) (by rw [Pm,<- r2.length]; exact l2) fun u v g tk p1 p2 hz' hO' t1 t2 hp sz kp=>?_) (F.args_zip_next_1 _))))
  have e1:its1[i]?=some u:=by simpa using p1
  have e2:its2[i]?=some v:=by simpa using p2
  have hx:∃ x,xs[i]?=some x/\RelV x u:=by
   obtain⟨u',hu,ru⟩:=r1.get (i:=i) (x:=xs[i]) (by simp [l1]);rw [e1] at hu; cases hu;exact⟨xs[i],by simp [l1],ru⟩
  have hy:∃ y,ys[i]?=some y/\RelV y v:=by
   obtain⟨u',hu,ru⟩:=r2.get (i:=i) (x:=ys[i]) (by simp [l2]);rw [e2] at hu; cases hu;exact⟨ys[i],by simp [l2],ru⟩
  obtain⟨x,ex,rx⟩:=hx;obtain⟨y,ey,ry⟩:=hy;refine To ⟨_,rfl,?_⟩;refine wpAny_letOwnedTupleGo_zip hz' fun g' hz2 sb=>?_;have hpz:s.heap.objs.size≠z:=Pb (Si hz);have hp':Uq g' s.heap.objs.size u v:=sb.extBut _ _ hpz hp;have I':Inv X pins σ (upd H s.heap.objs.size (.tup [x,y])) { s with heap:=g',toks:=tk }:=Inv.turnedL (ch:=[z,TI,TO,i1,i2]) I hf (fun c o hc e=>by
   simp only [Qz,QA,or_false,not_or] at hc;exact sb.extBut _ _ hc.1 (kp c o hc.1 hc.2.2.1 hc.2.2.2.1 hc.2.2.2.2 e)) (Ph _) ⟨by show 2<=S6; decide,[u,v],.cons rx (.cons ry .nil),_,hp',rfl,_,rfl⟩
  have fr:H s.heap.objs.size=none:=I.fresh;have ne:∀ c∈[z,TI,TO,i1,i2],c≠s.heap.objs.size:=fun c hc e=>by
   simp only [Qz,QA,or_false] at hc;rcases hc with rfl | rfl | rfl | rfl | rfl
   ·exact hpz e.symm
   ·exact absurd (Si hI) (by rw [e]; exact O0 _)
   ·exact absurd (Si hO) (by rw [e]; exact O0 _)
   ·obtain⟨o,q,_⟩:=s1.get; exact absurd (Si q) (by rw [e]; exact O0 _)
   ·obtain⟨o,q,_⟩:=s2.get; exact absurd (Si q) (by rw [e]; exact O0 _)
  refine⟨.ref s.heap.objs.size,_,I',rfl,⟨_,x,y,rfl,fr,rfl,fun xs' h=>by rw [Inv.sx_inj I h g1]; exact ex,fun ys' h=>by rw [Inv.sx_inj I h g2]; exact ey⟩,⟨hz2,?_,⟨u,v,sb.extBut _ _ Ap.a2 hO'⟩,?_,?_⟩,fun c hc=>by rw [aE (ne c hc)]; exact(hf c hc).1⟩
  ·exact sb.extBut _ _ Ap.a1 (kp TI _ Ap.a1 Ap.a3 Ap.d1 Ap.d2 hI)
  ·exact t1.1.keep fun o e=>sb.extBut _ _ n3.symm e
  ·exact t2.1.keep fun o e=>sb.extBut _ _ n4.symm e
 done:=by
  intro X hP hw hK hc i pins s σ H E I hf ⟨hz,hI,⟨a,b,hO⟩,s1,s2⟩ hg;subst hP hw hK;obtain⟨xs,ys,g1,g2,hl⟩:=hg;obtain⟨its1,r1,q1,z1⟩:=Inv.sx I g1;obtain⟨its2,r2,q2,z2⟩:=Inv.sx I g2;have hh:X.A.in1.handled=none:=I.ok.hd hc;have hT:s.TypeIs (.ref z) "zip":=⟨_,hz,rfl⟩
  unfold pyNext;refine Tp (Uw (T6 (name:=Str.ofString "__next__") hT F.slot_zip_next (T7 F.slot_zip_next hT F.entry_zip_next
   (next_end (i:=i) Ap (ot (A:=X.A.in1) b1 hh i1 a1 n1 its1.toArray) (ot (A:=X.A.in1) b2 hh i2 a2 n2 its2.toArray) hz hI hO ⟨s1,q1⟩ ⟨s2,q2⟩ (by rw [Pm,Pm,<- r1.length,<- r2.length]; exact hl) fun g e tk kp he=>?_) (F.args_zip_next_1 _))))
  obtain⟨o,ho,hce⟩:=he;refine Tp (Ux (T := "StopIteration") (b:=true) ⟨o,ho,hce⟩ Uy ?_);refine To ⟨rfl,Inv.turned0 (ch:=[z,TI,TO,i1,i2]) I hf fun c o hc e=>?_⟩;simp only [Qz,QA,or_false,not_or] at hc;exact kp c o hc.1 hc.2.2.1 hc.2.2.2.1 hc.2.2.2.2 e
 self:=fun _ _ _ _ _ ⟨hz,_⟩ h=>wpAny_pyIter_zip hz h
def Gf:D->Option (Bool×List D)
 | .lst xs=>some (true,xs)
 | .tup xs=>some (false,xs)
 | _=>none
theorem sW {K:RL} {H:Hp} {d:D} {b:Bool} {xs:List D} {v:V} (e:Gf d=some (b,xs)) (h:cY K H d v):∃ a vs,v=.ref a/\SX K b H a vs/\aZ K H xs vs:=by
 cases d with
 | lst ys=>cases e; exact cI.mp h
 | tup ys=>cases e; obtain⟨a,vs,e1,e2,e3⟩:=cJ.mp h; exact⟨a,vs,e1,p8.of e2,e3⟩
 | _=>cases e
def pM:List D->List D->List D
 | x::xs,y::ys=>.tup [x,y]::pM xs ys
 | _,_=>[]
theorem qU:∀ xs ys:List D,(pM xs ys).length=min xs.length ys.length
 | [],_=>by simp [pM]
 | _::_,[]=>by simp [pM]
 | x::xs,y::ys=>by
  rw [pM,Pp,qU xs ys,Pp,Pp]; omega
theorem yp:∀ {xs ys:List D} {i:Nat} {d:D},(pM xs ys)[i]?=some d->∃ x y,xs[i]?=some x/\ys[i]?=some y/\d=.tup [x,y]
 | [],_,i,d,h=>by simp [pM] at h
 | _::_,[],i,d,h=>by simp [pM] at h
 | x::xs,y::ys,0,d,h=>by
  rw [pM,QB] at h;cases h;exact⟨x,y,rfl,rfl,rfl⟩
 | x::xs,y::ys,i+1,d,h=>by
  rw [pM,QC] at h;obtain⟨a,b,h1,h2,h3⟩:=yp h;exact⟨a,b,by rw [QC]; exact h1,by rw [QC]; exact h2,h3⟩
theorem E9 {K:RL} {Hd:Hp} {b1 b2:Bool} {a1 a2:S3} {ds es:List D} {vs ws:List V} (h1:SX K b1 Hd a1 vs) (g1:aZ K Hd ds vs) (h2:SX K b2 Hd a2 ws) (g2:aZ K Hd es ws):Walk K Hd (Oz K b1 b2 a1 a2) (pM ds es):=fun Hn O' i hO sm =>
  have s':bn Hd Hn:=sm.trans (aB Hn O')
  ⟨fun d e=>by
    obtain⟨x,y,e1,e2,rfl⟩:=yp e;have l1:i < ds.length:=(List.getElem?_eq_some_iff.mp e1).1;have l2:i < es.length:=(List.getElem?_eq_some_iff.mp e2).1;obtain⟨v,ev,dv⟩:=g1.get e1;obtain⟨w,ew,dw⟩:=g2.get e2;refine⟨⟨vs,ws,h1.same s',h2.same s',by rw [<- g1.length]; exact l1,by rw [<- g2.length]; exact l2⟩,fun u H2 ⟨p,x',y',eu,hp,eH,q1,q2⟩=>?_⟩;have z1:=q1 vs (h1.same s');rw [ev] at z1; cases z1;have z2:=q2 ws (h2.same s');rw [ew] at z2; cases z2;subst eH eu;exact⟨bF hp _,e8 hO hp (bB.mpr ⟨v,_,rfl,dv.mono sm,bB.mpr ⟨w,_,rfl,dw.mono sm,cZ.mpr rfl⟩⟩)⟩,
   fun hl=>by
    rw [qU] at hl;refine⟨vs,ws,h1.same s',h2.same s',?_⟩;rw [<- g1.length,<- g2.length]
    omega⟩
def BR:List D->Option (List D)
 | [a,b]=>(Gf a).bind fun x=>(Gf b).bind fun y=>some (pM x.2 y.2)
 | _=>none
def Ga (f:aq->R (List D)):aq->R (List D):=fun ρ=>(f ρ).bind fun ds=>rO (BR ds)
section
variable {X:Cx}
theorem Jb {a b c:S3} (h1:a≠b) (h2:a≠c):a∉[b,c]:=fun h=>by
 rcases List.mem_cons.mp h with z | z
 ·exact h1 z
 ·exact h2 (List.mem_singleton.mp z)
theorem C2 {n a1 a2:S3} (h1:a1 < n) (h2:a2 < n):Apart (n+4) (n+2) (n+3) n (n+1) [n,a1] [n+1,a2]:=by
 have lt:∀ {a b:Nat},a < b->(b:S3)≠(a:S3):=fun h=>Pb h;have lt':∀ {a b:Nat},a < b->(a:S3)≠(b:S3):=fun h=>O1 h;have g:∀ k:Nat,a1 < n+k:=fun k=>OZ h1 (QD _ _);have g':∀ k:Nat,a2 < n+k:=fun k=>OZ h2 (QD _ _);have p:∀ {j k:Nat},j < k->n+j < n+k:=fun h=>QE h n;have p0:∀ {k:Nat},0 < k->n < n+k:=fun h=>QF h;exact⟨lt' (p (by decide)),lt' (p (by decide)),lt' (p (by decide)),Jb (lt (p0 (by decide))) (lt (g 4)),Jb (lt (p0 (by decide))) (lt (g 3)),Jb (lt (p0 (by decide))) (lt (g 1)),
  Jb (lt (p (by decide))) (lt (g' 4)),Jb (lt (p (by decide))) (lt (g' 3)),Jb (lt' (p0 (by decide))) (lt h2),lt (p0 (by decide)),lt (p (by decide)),O6,O6⟩
theorem JO {pins:List (S3×Obj)} {s:Tc} {σ:St} {H:Hp} {O:List S3} {es:List Tf} {k:Nat} {tpos:Pos} {ds r:List D} {vs:List V} {us:List SY} {RR:It->Hp->Prop} (I:Inv X pins σ H s) (hc:BR ds=some r) (d1:aZ X.K (hid H O) ds vs) (rv:Vals vs us) (q:∀ J,Walk X.K (hid H O) J r->RR J H) :
  Te (model X.prog X.w) X.A (call (.type "zip") us) (fun v s1=>Te (model X.prog X.w) X.A (pyIter v) (PIE X pins σ (.Tuple es k tpos) RR) X.xe s1) X.xe s:=by
 unfold BR at hc;split at hc
 ·rename_i a b;obtain⟨⟨b1,xs⟩,e1,hc⟩:=bind_some hc;obtain⟨⟨b2,ys⟩,e2,hc⟩:=bind_some hc;cases hc;obtain⟨va,vb,rfl,da,db⟩:=d1.two;obtain⟨u1,u2,rfl,r1,r2⟩:=vals2 rv;obtain⟨a1,ws1,rfl,x1,y1⟩:=sW e1 da;obtain⟨a2,ws2,rfl,x2,y2⟩:=sW e2 db;cases r1;cases r2;obtain⟨its1,rr1,q1,_⟩:=Inv.sx I (x1.same (aB H O));obtain⟨its2,rr2,q2,_⟩:=Inv.sx I (x2.same (aB H O));refine Ec q1 q2 fun g hz hI hO s1 s2 kp=>wpAny_pyIter_zip hz ?_;have Ap:=C2 q1.lt q2.lt;refine⟨_,_,_,_,H,rfl,I.kept (t':=s.toks) kp,Ei (b1:=b1) (b2:=b2) Ap (O1 q1.lt) (O1 (OZ q2.lt (QD _ 1))) (Pb (QF (by decide))) (Pb (QE (by decide) _)),⟨hz,hI,⟨_,_,hO⟩,s1,s2⟩,fun b hb=>?_,q _ (E9 x1 y1 x2 y2)⟩;have le:s.heap.objs.size<=b:=by
   simp only [Qz,QA,or_false] at hb;rcases hb with rfl | rfl | rfl | rfl | rfl
   ·exact QD _ _
   ·exact QD _ _
   ·exact QD _ _
   ·exact Ph _
   ·exact QD _ _
  exact I.fpOk le (I.hok.fresh le)
 ·cases hc
theorem Oe {a b:Tf} {es:List Tf} {k:Nat} {tpos:Pos} {f:aq->R (List D)} {p pos:Pos} (hg:Gl X "zip") (hm:X.mg "zip"=none) (ha:FA X [a,b] f) (hs:Tg [a,b] X.env=(false,eval a X.env)::Tg [b] X.env:=by rfl) (hpl:(backTo pos (Tg [b] X.env)).any (·.1)=false:=by rfl):FI X (.Tuple es k tpos) (.Call (.Name "zip" p) [a,b] [] pos) (Ga f):=by
 intro pins s σ H RR I ⟨O,ρ,E,hG⟩;have hA:=ha pos pins s σ H (fun vs H1=>∃ ds r,BR ds=some r/\aZ X.K (hid H1 O) ds vs/\∀ J,Walk X.K (hid H1 O) J r->RR J H1) I ⟨O,ρ,E,(jw.bind hG).imp fun ds hG vs H1 s1 d1=>by
  obtain⟨r,e,q⟩:=jw.rO hG;exact⟨ds,r,e,d1,fun J wk=>q J H1 s1 wk⟩⟩
 refine SE (mU I hg hm PyProof.Rows.boot_zip (Sy (eZ hA fun us s1 ⟨vs,H1,I1,r1,ds,r,er,d1,q⟩=>?_) hs hpl));exact JO I1 er d1 r1 q
end
def Oq (K:RL) (b:Bool) (a:S3):It :=
  ⟨fun i H=>∃ xs,SX K b H a xs/\i < xs.length,
   fun i H v H'=>∃ p x,v=.ref p/\H p=none/\H'=upd H p (.tup [.int i,x])/\∀ xs,SX K b H a xs->xs[i]?=some x,
   fun i H=>∃ xs,SX K b H a xs/\i=xs.length⟩
theorem Dd {P:S0} {w:SZ} {K:RL} {es:List Tf} {k:Nat} {pos:Pos} {b:Bool} {a e it:S3} (n1:a≠it) (n2:e≠it) (n3:e≠a):Turn P w K (.Tuple es k pos) (Oq K b a) [e,it] e (fun i h=>(∃ old,IsEnum h e it i old)/\SI b h it a i) where
 mem:=by simp
 obj:=fun i h ⟨⟨old,he⟩,s1⟩ c hc=>by
  simp only [Qz,QA,or_false] at hc;rcases hc with rfl | rfl
  ·exact⟨_,he,fun v q=>by cases q⟩
  ·exact s1.get
 keep:=fun i h h' ⟨⟨old,he⟩,s1⟩ kp=>⟨⟨old,kp e (by simp) _ he⟩,s1.keep fun o q=>kp it (by simp) o q⟩
 item:=by
  intro X hP hw hK hc i pins s σ H E I hf ⟨⟨old,he⟩,s1⟩ hg;subst hP hw hK;obtain⟨xs,g1,l1⟩:=hg;obtain⟨its,r1,q1,z1⟩:=Inv.sx I g1;have hh:X.A.in1.handled=none:=I.ok.hd hc;refine wpAny_pyNext_enum_itemD (ot (A:=X.A.in1) b hh it a n1 its.toArray) he ⟨s1,q1⟩ (by rw [Pm,<- r1.length]; exact l1) n2 (Jb n2 n3) fun u g tk p1 ho t1 hp sz kp=>?_;have e1:its[i]?=some u:=by simpa using p1
  obtain⟨u',hu,ru⟩:=r1.get (i:=i) (x:=xs[i]) (by simp [l1]);rw [e1] at hu; cases hu;refine⟨_,rfl,wpAny_letOwnedTupleGo_enum ho fun g' he' sb=>?_⟩;have hpe:s.heap.objs.size≠e:=Pb (Si he);have hp':=sb.extBut _ _ hpe hp;have I':Inv X pins σ (upd H s.heap.objs.size (.tup [.int i,xs[i]])) { s with heap:=g',toks:=tk+1 }:=Inv.turnedL (ch:=[e,it]) I hf (fun c o hc q=>by
   simp only [Qz,QA,or_false,not_or] at hc;exact sb.extBut _ _ hc.1 (kp c o hc.1 hc.2 q)) (Ph _) ⟨by show 2<=S6; decide,[.int i tk,u],.cons ⟨_,rfl⟩ (.cons ru .nil),_,hp',rfl,_,rfl⟩
  have ne:∀ c∈[e,it],c≠s.heap.objs.size:=fun c hc q=>by
   simp only [Qz,QA,or_false] at hc;rcases hc with rfl | rfl
   ·exact hpe q.symm
   ·obtain⟨o,q',_⟩:=s1.get; exact absurd (Si q') (by rw [q]; exact O0 _)
  refine⟨.ref s.heap.objs.size,_,I',rfl,⟨_,xs[i],rfl,I.fresh,rfl,fun xs' h=>by rw [Inv.sx_inj I h g1]; simp [l1]⟩,⟨⟨u,?_⟩,t1.1.keep fun o q=>sb.extBut _ _ n2.symm q⟩,fun c hc=>by rw [aE (ne c hc)]; exact(hf c hc).1⟩;have ei:((i+1:Nat):Int)=(i:Int)+1:=by omega
  rw [ei]; exact he'
 done:=by
  intro X hP hw hK hc i pins s σ H E I hf ⟨⟨old,he⟩,s1⟩ hg;subst hP hw hK;obtain⟨xs,g1,l1⟩:=hg;obtain⟨its,r1,q1,z1⟩:=Inv.sx I g1;have hh:X.A.in1.handled=none:=I.ok.hd hc;have el:i=its.toArray.size:=by rw [Pm,<- r1.length]; exact l1
  refine wpAny_pyNext_enum_endD (ot (A:=X.A.in1) b hh it a n1 its.toArray) he ⟨by rw [<- el]; exact s1,q1⟩ fun g kp=>⟨rfl,Inv.turned0 (ch:=[e,it]) I hf fun c o hc q=>?_⟩
  simp only [Qz,QA,or_false,not_or] at hc;exact kp c o hc.2 q
 self:=fun _ _ _ _ _ ⟨⟨old,he⟩,_⟩ h=>wpAny_pyIter_enum he h
def jC (i:Nat):List D->List D
 | []=>[]
 | x::xs=>.tup [.int i,x]::jC (i+1) xs
theorem pC:∀ (i:Nat) (xs:List D),(jC i xs).length=xs.length
 | _,[]=>rfl
 | i,x::xs=>by rw [jC,Pp,pC (i+1) xs,Pp]
theorem vW:∀ {xs:List D} {k i:Nat} {d:D},(jC k xs)[i]?=some d->∃ x,xs[i]?=some x/\d=.tup [.int ((k+i:Nat):Int),x]
 | [],k,i,d,h=>by simp [jC] at h
 | x::xs,k,0,d,h=>by
  rw [jC,QB] at h;cases h;exact⟨x,rfl,rfl⟩
 | x::xs,k,i+1,d,h=>by
  rw [jC,QC] at h;obtain⟨y,h1,h2⟩:=vW h;refine⟨y,by rw [QC]; exact h1,?_⟩;rw [h2];congr 4;omega
theorem Dc {K:RL} {Hd:Hp} {b:Bool} {a:S3} {ds:List D} {vs:List V} (h1:SX K b Hd a vs) (g1:aZ K Hd ds vs):Walk K Hd (Oq K b a) (jC 0 ds):=fun Hn O' i hO sm =>
  have s':bn Hd Hn:=sm.trans (aB Hn O')
  ⟨fun d e=>by
    obtain⟨x,e1,rfl⟩:=vW e;have l1:i < ds.length:=(List.getElem?_eq_some_iff.mp e1).1;obtain⟨v,ev,dv⟩:=g1.get e1;refine⟨⟨vs,h1.same s',by rw [<- g1.length]; exact l1⟩,fun u H2 ⟨p,x',eu,hp,eH,q1⟩=>?_⟩;have z1:=q1 vs (h1.same s');rw [ev] at z1; cases z1;subst eH eu;rw [QG];exact⟨bF hp _,e8 hO hp (bB.mpr ⟨.int i,_,rfl,fW.mpr rfl,bB.mpr ⟨v,_,rfl,dv.mono sm,cZ.mpr rfl⟩⟩)⟩,
   fun hl=>by
    rw [pC] at hl;exact⟨vs,h1.same s',by rw [<- g1.length]; exact hl⟩⟩
def wq:List D->Option (List D)
 | [a]=>(Gf a).bind fun x=>some (jC 0 x.2)
 | _=>none
def lT (f:aq->R (List D)):aq->R (List D):=fun ρ=>(f ρ).bind fun ds=>rO (wq ds)
section
variable {X:Cx}
theorem Dh {prog:S0} {w:SZ} {A:Tb} {E:SY->Tc->Prop} {s:Tc} {b:Bool} {l:S3} {xs:Array SY} {Q:SY->Tc->Prop} (h1:SQ b s.heap l xs)
  (h:∀ g,IsEnum g (s.heap.objs.size+1) s.heap.objs.size 0 .none->SI b g s.heap.objs.size l 0->(∀ c o,s.heap.get? c=some o->g.get? c=some o)->Q (.ref (s.heap.objs.size+1)) { s with heap:=g }):Te (model prog w) A (call (.type "enumerate") [.ref l]) Q E s:=by
 refine callType_new F.called_enumerate (by decide) (F.typeCall_enumerate_1 _) (F.newCall_enumerate_1 _) (fun obj=>F.args_object_init_2 obj _) F.entry_enumerate_new (B8 b l xs) ⟨h1,?_⟩;have z1:(Dk b s.heap l).objs.size=s.heap.objs.size+1:=Sr ..
 have g2:=Sq (Dk b s.heap l) (o:={ cls:=.type "enumerate",data:=.fields #[.none,.bool false,.ref s.heap.objs.size,rawInt 0,.none,.none] }) rfl;have g1:SI b ((Dk b s.heap l).push { cls:=.type "enumerate",data:=.fields #[.none,.bool false,.ref s.heap.objs.size,rawInt 0,.none,.none] }) s.heap.objs.size l 0:=SI.keep SI.new fun o e=>Sn _ e;show _/\_;rw [z1] at g2 ⊢;exact⟨⟨_,g2,rfl⟩,h _ g2 g1 fun c o e=>Sn _ (Sn _ e)⟩
theorem FY {pins:List (S3×Obj)} {s:Tc} {σ:St} {H:Hp} {O:List S3} {es:List Tf} {k:Nat} {tpos:Pos} {ds r:List D} {vs:List V} {us:List SY} {RR:It->Hp->Prop} (I:Inv X pins σ H s) (hc:wq ds=some r) (d1:aZ X.K (hid H O) ds vs) (rv:Vals vs us) (q:∀ J,Walk X.K (hid H O) J r->RR J H) :
  Te (model X.prog X.w) X.A (call (.type "enumerate") us) (fun v s1=>Te (model X.prog X.w) X.A (pyIter v) (PIE X pins σ (.Tuple es k tpos) RR) X.xe s1) X.xe s:=by
 unfold wq at hc;split at hc
 ·rename_i a;obtain⟨⟨b1,xs⟩,e1,hc⟩:=bind_some hc;cases hc;obtain⟨va,rfl,da⟩:=d1.one;obtain⟨u1,rfl,r1⟩:=vals1 rv;obtain⟨a1,ws1,rfl,x1,y1⟩:=sW e1 da;cases r1;obtain⟨its1,rr1,q1,_⟩:=Inv.sx I (x1.same (aB H O));refine Dh q1 fun g he s1 kp=>wpAny_pyIter_enum he ?_;refine⟨_,_,_,_,H,rfl,I.kept (t':=s.toks) kp,Dd (b:=b1) (O1 q1.lt) (Pb (QF (by decide))) (Pb (OZ q1.lt (QD _ 1))),⟨⟨_,he⟩,s1⟩,fun b hb=>?_,q _ (Dc x1 y1)⟩;have le:s.heap.objs.size<=b:=by
   simp only [Qz,QA,or_false] at hb;rcases hb with rfl | rfl
   ·exact QD _ _
   ·exact Ph _
  exact I.fpOk le (I.hok.fresh le)
 ·cases hc
theorem G6 {a:Tf} {es:List Tf} {k:Nat} {tpos:Pos} {f:aq->R (List D)} {p pos:Pos} (hg:Gl X "enumerate") (hm:X.mg "enumerate"=none) (ha:FA X [a] f) (hs:Tg [a] X.env=(false,eval a X.env)::Tg [] X.env:=by rfl) (hpl:(backTo pos (Tg [] X.env)).any (·.1)=false:=by rfl):FI X (.Tuple es k tpos) (.Call (.Name "enumerate" p) [a] [] pos) (lT f):=by
 intro pins s σ H RR I ⟨O,ρ,E,hG⟩;have hA:=ha pos pins s σ H (fun vs H1=>∃ ds r,wq ds=some r/\aZ X.K (hid H1 O) ds vs/\∀ J,Walk X.K (hid H1 O) J r->RR J H1) I ⟨O,ρ,E,(jw.bind hG).imp fun ds hG vs H1 s1 d1=>by
  obtain⟨r,e,q⟩:=jw.rO hG;exact⟨ds,r,e,d1,fun J wk=>q J H1 s1 wk⟩⟩
 refine SE (mU I hg hm PyProof.Rows.boot_enumerate (Sy (eZ hA fun us s1 ⟨vs,H1,I1,r1,ds,r,er,d1,q⟩=>?_) hs hpl));exact FY I1 er d1 r1 q
end
end TG
namespace TG
open PySem PySem.Spec L2
variable [aX]

theorem vT {K:RL} {c:Str} {C C':S3} (h:clsAt K c C) (h':clsAt K c C'):C=C':=by
 unfold clsAt at h h';rw [h] at h';cases h'; rfl
theorem tI {K:RL} {H:Hp} {f:Str}:∀ {fs:List Str} {ds:List D} {vs:List V} {d:D},aZ K H ds vs->(fs.zip ds).lookup f=some d->∃ v,(fs.zip vs).lookup f=some v/\cY K H d v
 | [],_,_,_,_,e=>by simp at e
 | _::_,[],_,_,_,e=>by simp at e
 | g::fs,x::ds,vs,d,h,e=>by
  rw [bB] at h;obtain⟨v,r,rfl,h1,h2⟩:=h;rw [QH,P7] at e ⊢;cases hg:f==g with
  | true=>rw [hg] at e; cases e; exact⟨v,rfl,h1⟩
  | false=>rw [hg] at e; exact tI h2 e
theorem vz {f:Str}:∀ {fs:List Str} {vs:List V},fs.contains f=false->(fs.zip vs).lookup f=none
 | [],_,_=>by simp
 | _::_,[],_=>by simp
 | g::fs,x::vs,h=>by
  rw [QI,QJ] at h;rw [QH,P7,h.1];exact vz h.2
def sO (f:Str) (cs:List Str) (d:D):Option D:=match d with
 | .obj c fs vs=>if cs.contains c then (fs.zip vs).lookup f else none
 | _=>none
def sQ (K:RL) (f:Str) (cs:List Str):Prop:=∀ c∈cs,∀ C,clsAt K c C->AG K C/\lg K C f
section
variable {X:Cx} {a o e:Tf} {es:List Tf} {fa fo:FX} {fas:aq->R (List D)} {f m x:Str} {cs:List Str} {pos apos p:Pos} {k k':Nat} {ps:List Str}
theorem M8 (ok:sQ X.K f cs) (h:FE X a fa) (hb:TB a f X.env (eval a X.env)=eval a X.env:=by rfl):FE X (.Attribute a f pos) (f1 (sO f cs) fa) :=
 PE.weak (Ja h hb) fun σ H Q ⟨O,ρ,E,hF⟩=>⟨O,ρ,E,(jw.bind hF).imp fun d hF v H1 s1 d1=>by
  obtain⟨r,e,q⟩:=jw.rO hF;cases d with
  | obj c fs vs =>
   have e':(if cs.contains c then (fs.zip vs).lookup f else none)=some r:=e;cases hc:cs.contains c with
   | false=>rw [hc] at e'; cases e'
   | true =>
    rw [hc] at e';obtain⟨a,ws,ev,g1,g2,C,dx,g3,g4⟩:=Lz.mp d1;obtain⟨w,l1,l2⟩:=tI g1 e';obtain⟨cl,na⟩:=ok c (List.contains_iff_mem.mp hc) C g3;exact⟨a,C,dx,_,w,ev,aB H1 O _ _ g4,cl,na,l1,q w H1 s1 l2⟩
  | _=>cases e⟩
def MethAt (P:S0) (w:SZ) (K:RL) (mg:Str->Option SY) (base:S5) (k:Nat) (c m:Str) (ps:List Str) (g:List D->R D):Prop :=
 ∃ C f fd,clsAt K c C/\AG K C/\Meth K C m f/\jI P w K mg base (oC P w) k f fd ps (Di K ps.length g)/\Binds K fd ps []
def cq (m:Str) (tbl:List (Str×(List D->R D))) (fo:FX) (fas:aq->R (List D)):FX:=fun ρ=>(fo ρ).bind fun o=>match o with
 | .obj c fs vs=>match tbl.lookup c with
  | some g=>if fs.contains m then un else (fas ρ).bind fun as=>g (o::as)
  | none=>un
 | _=>un
def dY (P:S0) (w:SZ) (K:RL) (mg:Str->Option SY) (base:S5) (k:Nat) (m:Str) (ps:List Str) (tbl:List (Str×(List D->R D))):Prop :=
 ∀ c g,tbl.lookup c=some g->MethAt P w K mg base k c m ps g/\Ar ps.length g
theorem ir {P:S0} {w:SZ} {K:RL} {mg:Str->Option SY} {base:S5}:dY P w K mg base k m ps []:=fun _ _ h=>nomatch h
theorem cB {P:S0} {w:SZ} {K:RL} {mg:Str->Option SY} {base:S5} {c:Str} {g:List D->R D} {tbl:List (Str×(List D->R D))} (h:MethAt P w K mg base k c m ps g) (hn:Ar ps.length g) (t:dY P w K mg base k m ps tbl):dY P w K mg base k m ps ((c,g)::tbl):=fun c' g' e=>by
 rw [P7] at e;cases hc:c'==c with
 | true =>
  rw [hc] at e;cases e
  have:c'=c:=by simpa using hc
  subst this;exact⟨h,hn⟩
 | false=>rw [hc] at e; exact t c' g' e
theorem MethAt.mono {P:S0} {w:SZ} {K:RL} {mg:Str->Option SY} {base:S5} {c:Str} {g:List D->R D} (h:MethAt P w K mg base k c m ps g) (hk:k<=k'):MethAt P w K mg base k' c m ps g:=by
 obtain⟨C,f,fd,h1,h2,h3,h4,h5⟩:=h;exact⟨C,f,fd,h1,h2,h3,h4.mono hk,h5⟩
theorem yz {tbl:List (Str×(List D->R D))} {args:List Tf} {pl:Sem Bool} (tb:dY X.prog X.w X.K X.mg X.base k m ps tbl) (hr:fN k X.A) (ho:FE X o fo)
  (hc:∀ (pins:List (S3×Obj)) (s1:Tc) (σ:St) (H1:Hp) (O:List S3) (ρ:aq) (a f:S3) (od:D) (Q:VK) (g:List D->R D) (fd:TK) (w0:V),RZ X.K (.ref f)=true->jI X.prog X.w X.K X.mg X.base (oC X.prog X.w) k f fd ps (Di X.K ps.length g)->Binds X.K fd ps []->Ar ps.length g->Inv X pins σ H1 s1->eG X.K O H1 ρ σ->cY X.K (hid H1 O) od (.ref a) ->
   (jw X σ O H1 ((fas ρ).bind fun as=>g (od::as)) fun d=>∀ v H',bn H1 H'->cY X.K (hid H' O) d v->Q v H') ->
   Te (model X.prog X.w) X.A (TC pos (.ref f) [.ref a] (backTo pos (Tg args X.env)) (backToKw pos (TF [] X.env))) (EP X pins σ Q) X.xe s1)
  (ht:eval (.Call (.Attribute o m apos) args [] pos) X.env=(do
   let ov <- eval o X.env
   standAt apos.atName
   let (f,first) <- holding [ov] (getMethod ov m pl)
   TC pos f first (backTo pos (Tg args X.env)) (backToKw pos (TF [] X.env)))) :
  FE X (.Call (.Attribute o m apos) args [] pos) (cq m tbl fo fas):=by
 intro pins s σ H Q I ⟨O,ρ,E,hF⟩;refine yq ho I ?_ ht;refine⟨O,ρ,E,(jw.bind hF).imp fun d hF v H1 s1 d1=>?_⟩;cases d with
 | obj c fs vs =>
  have hF':jw X σ O H (match tbl.lookup c with | some g=>if fs.contains m then un else (fas ρ).bind fun as=>g (.obj c fs vs::as) | none=>un) _:=hF;cases hg:tbl.lookup c with
  | none=>rw [hg] at hF'; exact hF'.elim
  | some g =>
   rw [hg] at hF';have hF2:jw X σ O H (if fs.contains m then un else (fas ρ).bind fun as=>g (.obj c fs vs::as)) _:=hF';cases hm:fs.contains m with
   | true=>rw [hm] at hF2; exact hF2.elim
   | false =>
    rw [hm] at hF2;have hF3:jw X σ O H ((fas ρ).bind fun as=>g (.obj c fs vs::as)) _:=hF2;have d0:=d1;obtain⟨a,ws,ev,g1,g2,C,dx,g3,g4⟩:=Lz.mp d1;obtain⟨⟨C',f,fd,m1,m2,m3,m4,m5⟩,ar⟩:=tb c g hg;have eC:=vT g3 m1;subst eC;subst ev;refine⟨a,C,dx,_,f,rfl,aB H1 O _ _ g4,m2,m3,vz hm,fun s2 I2=>?_⟩;exact hc pins s2 σ H1 O ρ a f _ Q g fd (.ref a) m3.kp m4 m5 ar I2 (E.same s1) d0 ((hF3.mono s1).imp fun d q v H2 s2 d2=>q v H2 (s1.trans s2) d2)
 | _=>exact hF.elim
theorem ud {σ:St} {O:List S3} {H:Hp} {g:List D->R D} {ds:List D} {vs:List V} {Q:VK} {n:Nat} (ar:Ar n g) (hO:eL H O) (d1:aZ X.K (hid H O) ds vs) (h:jw X σ O H (g ds) fun d=>∀ v H',bn H H'->cY X.K (hid H' O) d v->Q v H'):∃ E,mG (oC X.prog X.w) X σ E/\Di X.K n g vs H Q E:=by
 cases hg:g ds with
 | ok d =>
  rw [hg] at h;refine⟨E0,Bc,O,ds,by rw [<- d1.length]; exact ar ds (by rw [hg]; intro z; cases z),hO,d1,?_⟩;rw [hg]; exact h
 | error z =>
  rw [hg] at h;cases z with
  | none=>exact h.elim
  | some x =>
   refine⟨Bm X O H x,Bz h,O,ds,by rw [<- d1.length]; exact ar ds (by rw [hg]; intro z; cases z),hO,d1,?_⟩;rw [hg]; exact yv
theorem Mm {tbl:List (Str×(List D->R D))} {pl:Sem Bool} (tb:dY X.prog X.w X.K X.mg X.base k m ps tbl) (hr:fN k' X.A) (hk:k<=k') (ho:FE X o fo) (ha:FA X (e::es) fas)
  (hns:(e::es).all noStar=true:=by rfl)
  (ht:eval (.Call (.Attribute o m apos) (e::es) [] pos) X.env=(do
   let ov <- eval o X.env
   standAt apos.atName
   let (f,first) <- holding [ov] (getMethod ov m pl)
   TC pos f first (backTo pos (Tg (e::es) X.env)) (backToKw pos (TF [] X.env))):=by rfl) :
  FE X (.Call (.Attribute o m apos) (e::es) [] pos) (cq m tbl fo fas) :=
 yz tb (hr.mono hk) ho (fun pins s1 σ H1 O ρ a f od Q g fd _ kp F b ar I1 E1 dO hP=>by
  refine R0 (first:=[.ref a]) (h₀:=X.base) I1.ok.mod.kin kp (eZ (ha pos pins s1 σ H1 _ I1 ⟨O,ρ,E1,(jw.bind hP).imp fun as hP vs H2 s2 d2=>ud (vs:=.ref a::vs) ar (E1.all.same s2) (bB.mpr ⟨_,_,rfl,dO.mono (cf s2),d2⟩) ((hP.mono s2).imp fun d q v H3 s3 d3=>q v H3 (s2.trans s3) d3)⟩) fun us s2 ⟨vs,H2,I2,r,Ex,hx,q2⟩=>⟨I2.kIn,?_⟩) (dH (PP _ _ ▸ hns).1) (gB (PP _ _ ▸ hns).2);exact xE (us:=.ref a::us) (vs:=.ref a::vs) F (hr.mono hk) b hx I2 (.cons rfl r) q2) ht
theorem K6 {tbl:List (Str×(List D->R D))} {pl:Sem Bool} (tb:dY X.prog X.w X.K X.mg X.base k m ps tbl) (hr:fN k' X.A) (hk:k<=k') (ho:FE X o fo)
  (ht:eval (.Call (.Attribute o m apos) [] [] pos) X.env=(do
   let ov <- eval o X.env
   standAt apos.atName
   let (f,first) <- holding [ov] (getMethod ov m pl)
   TC pos f first (backTo pos (Tg [] X.env)) (backToKw pos (TF [] X.env))):=by rfl) :
  FE X (.Call (.Attribute o m apos) [] [] pos) (cq m tbl fo au) :=
 yz tb (hr.mono hk) ho (fun pins s1 σ H1 O ρ a f od Q g fd _ kp F b ar I1 E1 dO hP=>by
  have hP':jw X σ O H1 (g [od]) fun d=>∀ v H',bn H1 H'->cY X.K (hid H' O) d v->Q v H':=hP;obtain⟨Ex,hx,q2⟩:=ud (vs:=[.ref a]) ar E1.all (bB.mpr ⟨_,_,rfl,dO,cZ.mpr rfl⟩) hP';exact PySem.W.callWith_K0 (first:=[.ref a]) I1.kIn kp (xE (us:=[.ref a]) (vs:=[.ref a]) F (hr.mono hk) b hx I1 (.cons rfl .nil) q2)) ht
theorem bW {P:S0} {w:SZ} {K:RL} {mg:Str->Option SY} {base:S5} {c y qual:Str} {C f:S3} {fd:TK} {st:Th} {N:List Str} {B:cw} (h1:clsAt K c C) (h2:AG K C) (h3:Meth K C m f) (F:wF K y qual st f fd) (b:Binds K fd ps []) (SC:aU N ps (ax st)) (hb:BodyOk P w K mg base k N qual st f B) :
  MethAt P w K mg base (k+1) c m ps (aG B ps.length N.length):=⟨C,f,fd,h1,h2,h3,xh F SC hb,b⟩
def OY (C:S3) (fs:List Str):Sp:=fun vs H Q _=>∃ x dx as,vs=.ref x::as/\as.length=fs.length/\H x=some (.ins C dx [])/\Q .non (upd H x (.ins C dx (fs.zip as)))
def sF (P:S0) (w:SZ) (K:RL) (mg:Str->Option SY) (base:S5) (k:Nat) (c:Str) (ps fs:List Str):Prop :=
 ∃ C f fd,clsAt K c C/\Mk K C f/\jI P w K mg base (oC P w) k f fd ps (OY C fs)/\Binds K fd ps []/\mg c=some (.ref C)
def fNew (c:Str) (fs:List Str) (fas:aq->R (List D)):FX:=fun ρ=>(fas ρ).bind fun as=>if as.length=fs.length then .ok (.obj c fs as) else un
theorem y8 {K:RL} {H1:Hp} {O:List S3} {c:Str} {fs:List Str} {as:List D} {vs:List V} {C x dx:S3} (hc:clsAt K c C) (hl:as.length=fs.length) (d1:aZ K (hid H1 O) as vs) (hO:eL H1 O) (hx:H1 x=none) (hd:H1 dx=none) (ne:dx≠x) :
  bn H1 (upd (upd (upd H1 dx (.own x)) x (.ins C dx [])) x (.ins C dx (fs.zip vs)))/\cY K (hid (upd (upd (upd H1 dx (.own x)) x (.ins C dx [])) x (.ins C dx (fs.zip vs))) O) (.obj c fs as) (.ref x):=by
 have sm:bn H1 (upd (upd (upd H1 dx (.own x)) x (.ins C dx [])) x (.ins C dx (fs.zip vs))):=fun b o h=>by
  have n1:=bc h hx;have n2:=bc h hd;rw [aE n1,aE n1,aE n2]; exact h
 exact⟨sm,Lz.mpr ⟨x,vs,rfl,d1.mono (cf sm),by rw [<- d1.length,hl],C,dx,hc,by rw [jV (hO.not hx),aQ]⟩⟩
theorem Kj {X:Cx}:Ai (oC X.prog X.w) X E0:=fun _ _ _ _ _ _ _ h=>by
 obtain⟨_,_,_,_,_,_,_,_,_,_,_,_,_,z⟩:=h;exact z.elim
theorem Nz {c:Str} {fs:List Str} (IA:sF X.prog X.w X.K X.mg X.base k c ps fs) (hr:fN k' X.A) (hk:k+1<=k') (hg:Gl X c) (ha:FA X (e::es) fas) (hdb:(c==("__debug__":Str))=false:=by decide)
  (hns:(e::es).all noStar=true:=by rfl):FE X (.Call (.Name c p) (e::es) [] pos) (fNew c fs fas):=by
 obtain⟨C,f,fd,h1,h2,h3,h4,h5⟩:=IA;refine PE.weak (Gh (dvs:=[]) (E:=E0) h2 h3 (hr.mono hk) hg h5 h4 .nil Kj ha hdb (dH (PP _ _ ▸ hns).1) (gB (PP _ _ ▸ hns).2)) fun σ H Q ⟨O,ρ,E,hF⟩=>⟨O,ρ,E,(jw.bind hF).imp fun as hF vs H1 s1 d1 x dx hx hd ne=>?_⟩
 by_cases hl:as.length=fs.length
 ·rw [if_pos hl] at hF;rw [Pw];refine⟨x,dx,vs,rfl,by rw [<- d1.length,hl],by rw [aQ],rfl,?_⟩;obtain⟨sm,dn⟩:=y8 h1 hl d1 (E.all.same s1) hx hd ne;exact hF _ _ (s1.trans sm) dn
 ·rw [if_neg hl] at hF; exact hF.elim
theorem ya (f:Str) (v:V):∀ {fs:List (Str×V)},(fs.map (·.1)).contains f=false->mh f v fs=fs++[(f,v)]
 | [],_=>rfl
 | (g,w)::fs,h=>by
  rw [Pq,QI,QJ] at h;have ne:¬ g=f:=fun z=>by
   have:=h.1
   rw [z] at this;simp at this
  have:=ya f v (fs:=fs) h.2
  unfold mh;simp only [ne,if_false,this,Qb]
def HQ (X:Cx) (cs:List Str) (body:List Th) (fs:List Str) (i:Nat):Prop :=
 ∃ t,x6 X body t/\∀ (D:Ends) (σ:St) (H:Hp) (x dx C:S3) (done:List (Str×V)) (as:List V),σ[0]?=some (some (.ref x))->(∀ j v,as[j]?=some v->σ[i+j]?=some (some v))->as.length=fs.length->AG X.K C->(∀ f∈fs,lg X.K C f)->done.length+fs.length < 1000->(done.map (·.1)++fs).Nodup->H x=some (.ins C dx done) ->
  D.nx σ (upd H x (.ins C dx (done++fs.zip as)))->t D σ H
theorem CO {st:Th} {f:Str} {i:Nat} {o v:Tf} {p1 p2:Pos} (hst:st=.Assign [.Attribute o f p1] v p2) (ho:PE X o (ux 0)) (hv:PE X v (ux i)) (hs:swapsWith v (some (.Attribute o f p1)) p2.line X.env=pure false):HQ X cs [st] [f] i:=by
 subst hst;refine⟨_,Bl (Jj ho hv hs),fun D σ H x dx C done as h0 ha hl cl na hz nd hx q=>?_⟩;obtain⟨a,rfl⟩:∃ a,as=[a]:=by
  match as,hl with
  | [a],_=>exact⟨a,rfl⟩
 refine⟨a,ha 0 a rfl,.ref x,h0,x,C,dx,done,rfl,hx,cl,na f (List.mem_singleton.mpr rfl),by simp at hz; omega,?_⟩;rw [ya f a (by
  have:=nd
  rw [QK] at this;have h3:=this.2.2;cases hc:(done.map (·.1)).contains f with
  | false=>rfl
  | true=>exact absurd rfl (h3 f (List.contains_iff_mem.mp hc) f (List.mem_singleton.mpr rfl)))]
 exact q
theorem CK {P:S0} {w:SZ} {K:RL} {mg:Str->Option SY} {base:S5} {c qual:Str} {C f:S3} {fd:TK} {st:Th} {fs:List Str} (h1:clsAt K c C) (hM:Mk K C f) (cl:AG K C) (na:∀ g∈fs,lg K C g) (F:wF K "__init__" qual st f fd) (b:Binds K fd ps []) (hmg:mg c=some (.ref C)) (SC:aU ps ps (ax st)) (hps:ps.length=fs.length+1) (hnd:fs.Nodup) (hlen:fs.length < 1000)
  (hb:∀ (cdv:SY) (A:Tb) (outer:List Env) (s:Tc) (H:Hp) (E:XK),HQ (j5 LD P w K mg base ps qual (ax st) f cdv A outer s H E).nox [] (fF st) fs 1):sF P w K mg base (k+1) c ps fs:=by
 refine⟨C,f,fd,h1,hM,?_,b,hmg⟩;refine jI.any (F.ok SC (fun vs H Q E h=>?_) fun cdv A outer s H vs Q E hr h=>?_)
 ·obtain⟨x,dx,as,rfl,hl,_⟩:=h;rw [Pp,hl,hps]
 ·obtain⟨t,ht,hq⟩:=hb cdv A outer s H E;obtain⟨x,dx,as,rfl,hl,hx,q⟩:=h;have hst:L2.start ps (.ref x::as)=(.ref x::as).map some:=by
   unfold L2.start;rw [Pp,hl,hps,QL,QM,Pw]
  refine⟨t,ht,hq _ _ H x dx C [] as (by rw [hst]; rfl) (fun j v e=>?_) hl cl na (by simpa using hlen) (by simpa using hnd) hx q⟩;rw [hst,Nat.add_comm,Pq,QC,PF,e]; rfl
end
end TG
namespace TG
open PySem PySem.Spec L2
variable [aX]
section
variable {X:Cx}
def HN:List D->Option (List Str)
 | []=>some []
 | .str x::r=>(HN r).bind fun ys=>some (x::ys)
 | _=>none
def OL:D->Option Str
 | .str z=>some z
 | _=>none
def Oo (z:Str) (as:List D):Option D:=match as with
 | [.lst xs]=>(HN xs).bind fun ys=>if small ((ys.map (fun y=>y.length)).sum+ys.length*z.length) then some (.str (Txt.join z ys)) else none
 | _=>none
def MZ (a b:D):Option D:=match a,b with
 | .bl c,.bl d=>some (.bl (c==d))
 | _,_=>none
def FU (a b:D):Option D:=match a,b with
 | .bl c,.bl d=>some (.bl (!(c==d)))
 | _,_=>none
end
section
variable {X:Cx} {C:S3} {pins:List (S3×Obj)} {σ:St} {H:Hp} {s:Tc} {Q:VK}
def anyB:List D->Option Bool
 | []=>some false
 | .bl b::r=>(anyB r).bind fun c=>some (b || c)
 | _=>none
def C9:List D->Option D
 | [.lst xs]=>(anyB xs).bind fun b=>some (.bl b)
 | _=>none
theorem y6:∀ {xs:List D} {b:Bool},anyB xs=some b->∃ bs:List Bool,xs=bs.map .bl/\b=bs.any id
 | [],b,h=>by cases h; exact⟨[],rfl,rfl⟩
 | d::r,b,h=>by
  cases d with
  | bl x =>
   obtain⟨c,e1,e2⟩:=bind_some (show ((anyB r).bind fun c=>some (x || c))=some b from h);cases e2;obtain⟨bs,e3,e4⟩:=y6 e1;exact⟨x::bs,by rw [Pq,e3],by rw [PZ,e4]; rfl⟩
  | _=>cases h
theorem range_any (bs:List Bool):((List.range bs.length).any fun i=>(bs[i]?).getD false)=bs.any id:=by
 induction bs with
 | nil=>rfl
 | cons b bs ih =>
  rw [Pp,Qi,PZ,QN,PZ,<- ih];rfl
theorem Cb (hc:X.calm=true):eA X (.builtin "any") (xP X.K C9):=by
 intro pins s σ H xs us Q I r ⟨O,ds,d,hO,hd,hg,q⟩;unfold C9 at hg;split at hg
 ·rename_i ys;obtain⟨bv,e1,e2⟩:=bind_some hg;cases e2;obtain⟨bs,eb,ev⟩:=y6 e1;subst eb ev;obtain⟨v,evv,h1⟩:=hd.one;subst evv;obtain⟨p,vs,ep,g1,g2⟩:=cI.mp h1;subst ep;obtain⟨u,eu,ru⟩:=vals1 r;subst eu;cases ru;obtain⟨its,rv,pl,hz⟩:=I.list ((aB H O).seq g1);have ei:=tX g2 rv;have hl:=pl.isList;have hlt:p < s.heap.objs.size:=by obtain⟨_,e,_⟩:=hl; exact Si e
  refine call_any_walk (Tq hl ?_);refine⟨s.heap.objs.size,[s.heap.objs.size,p],[s.heap.objs.size],its.toArray.size,_,_,fun i=>(bs[i]?).getD false,rfl,Walks.list (A:=X.A.in1) (I.ok.hd hc) _ p (O1 hlt) its.toArray,
   ⟨⟨_,Sq _ rfl,rfl,rfl⟩,hl.push _⟩,fun i v s' Q' E' hP hQ=>?_,fun h' tk hk=>?_⟩
  ·have e:bs[i]?.map Value.bool=some v:=by
    rw [<- PF,<- ei]
    simpa using hP
   cases eb:bs[i]? with
   | none=>rw [eb] at e; cases e
   | some b =>
    rw [eb] at e;cases e;simp only [eb,Option.getD_some] at hQ;exact Tl hQ
  ·have e:((List.range its.toArray.size).any fun i=>(bs[i]?).getD false)=bs.any id:=by
    have:its.toArray.size=bs.length:=(by rw [Pm,ei,Pr]);rw [this]; exact range_any bs
   rw [e];have k:∀ b x,s.heap.get? b=some x->h'.get? b=some x:=fun b x e=>hk b x (fun hm=>by rw [List.mem_singleton.mp hm] at e; exact O0 _ (Si e)) (Sn _ e);exact⟨.bl _,H,I.kept k,rfl,q _ H (bn.refl H) (lB.mpr rfl)⟩
 ·cases hg
end
end TG
namespace TG
open PySem PySem.Spec PyProof.Rows L2
variable [aX]
def eS:List D->List D->Option Bool
 | [],[]=>some false
 | [],_::_=>some true
 | _::_,[]=>some false
 | a::as,b::bs=>match a,b with
  | .int i,.int j=>if i=j then eS as bs else some (decide (i < j))
  | .str x,.str y=>if x=y then eS as bs else some (decide (x.cps.toList < y.cps.toList))
  | _,_=>none
inductive gP:List SY->List D->Prop where
 | nil:gP [] []
 | int (i:Int) (t:Tok) {vs:List SY} {ds:List D} (h:gP vs ds):gP (.int i t::vs) (.int i::ds)
 | str (x:Str) (t:Tok) {vs:List SY} {ds:List D} (h:gP vs ds):gP (.str x t::vs) (.str x::ds)
theorem gP.length:∀ {vs:List SY} {ds:List D},gP vs ds->vs.length=ds.length
 | _,_,.nil=>rfl
 | _,_,.int _ _ h=>by rw [Pp,Pp,h.length]
 | _,_,.str _ _ h=>by rw [Pp,Pp,h.length]
theorem HU (A:Tb) (s:Tc) (a:Int) (t:Tok) (c:Int) (u:Tok):∃ e,SeqAt.EqAt A s (.int a t) (.int c u) e/\(e=true↔a=c) :=
 ⟨(a==c),SeqAt.EqAt.int_int a t c u,by simp⟩
theorem HR (A:Tb) (s:Tc) (a:Str) (t:Tok) (c:Str) (u:Tok):∃ e,SeqAt.EqAt A s (.str a t) (.str c u) e/\(e=true↔a=c) :=
 ⟨(a==c),SeqAt.EqAt.str_str a t c u,by simp⟩
theorem Kk (A:Tb) (s:Tc) (a:Str) (t:Tok) (c:Str) (u:Tok) (prog:S0) (w:SZ) (E:SY->Tc->Prop) (Q:SY->Tc->Prop) (h:Q (.bool (decide (a.cps.toList < c.cps.toList))) s) :
  Te (model prog w) A (richCompare .Lt (.str a t) (.str c u)) Q E s :=
 (PySem.P.lt_str h:Te (model prog w) A (Tv .Lt (.str a t) (.str c u)) Q E s)
section
open PySem.SeqAt
open PySem.AutoSeq1 (wpAny_loadPart')
open PySem.MeetsSeq PySem.MeetsSeq2 PySem.MeetsSeq3
set_option maxHeartbeats 1000000 in
theorem uV (l b:S3) (items items2:Array SY) (n n2:Nat) (dd dd2:Option S3) (sl sl2:Array (Option SY)) (ns ms:List D) (r:Bool) (hi:gP items.toList ns) (hj:gP items2.toList ms) (hr:eS ns ms=some r) :
  Meets (Builtin.«tuple.__lt__» ⟨[.ref l,.ref b],[]⟩)
   (fun _ R s=>s.heap.get? l=some { cls:=.type "tuple",dict:=dd,data:=.seq items n,slots:=sl }/\s.heap.get? b=some { cls:=.type "tuple",dict:=dd2,data:=.seq items2 n2,slots:=sl2 } /\
    R (.ok (.ret (.bool r))) s) :=
 .of_wp fun prog w A R s h=>by
  obtain⟨hp,g,d,tk,os⟩:=s; obtain⟨hl,hb,h⟩:=h;have f2:=AutoSeq1.sub_tuple_tuple;have z1:items.size=ns.length:=by rw [<- hi.length]; simp
  have z2:items2.size=ms.length:=by rw [<- hj.length]; simp
  wp_walk using wpAny_loadPart' hl,wpAny_loadPart' hb,wpAny_forIn_list _ (fun rest b s'=>b.1=none/\s'=⟨hp,g,d,tk,os⟩/\∃ (vs ws:List SY) (ns' ms':List D),rest=vs.zip ws /\
   gP vs ns'/\gP ws ms'/\ns'.length+items2.size=ms'.length+items.size/\eS ns' ms'=some r/\R (.ok (.ret (.bool r))) ⟨hp,g,d,tk,os⟩) _
  case turn =>
   rintro⟨y,x⟩ rest b s' ⟨hb',rfl,vs,ws,ns',ms',hz,hvi,hwi,hlen,hL,hR⟩;cases hvi with
   | nil=>rw [List.zip_nil_left] at hz; cases hz
   | int a t hvi' =>
    cases hwi with
    | nil=>rw [QO] at hz; cases hz
    | str c u hwi'=>cases hL
    | int c u hwi' =>
     rw [QH] at hz;injection hz with hyx hrest;injection hyx with hy hx;subst hy hx;have hL':(if a=c then eS _ _ else some (decide (a < c)))=some r:=hL;simp only [Pp] at hlen;obtain⟨e,he,hiff⟩:=HU A.in1 ⟨hp,g,d,tk,os⟩ a t c u;refine Tp (he prog w _ _ ?_);cases e with
     | true =>
      rw [if_pos (hiff.mp rfl)] at hL'
      wp_walk
      exact⟨rfl,rfl,_,_,_,_,hrest,hvi',hwi',by omega,hL',hR⟩
     | false =>
      rw [if_neg (fun q=>absurd (hiff.mpr q) Pn)] at hL';cases hL';have hri:=HT.K8 A.in1 ⟨hp,g,d,tk,os⟩ a t c u prog w
      wp_walk using hri
      exact⟨_,rfl,by simpa using hR⟩
   | str a t hvi' =>
    cases hwi with
    | nil=>rw [QO] at hz; cases hz
    | int c u hwi'=>cases hL
    | str c u hwi' =>
     rw [QH] at hz;injection hz with hyx hrest;injection hyx with hy hx;subst hy hx;have hL':(if a=c then eS _ _ else some (decide (a.cps.toList < c.cps.toList)))=some r:=hL;simp only [Pp] at hlen;obtain⟨e,he,hiff⟩:=HR A.in1 ⟨hp,g,d,tk,os⟩ a t c u;refine Tp (he prog w _ _ ?_);cases e with
     | true =>
      rw [if_pos (hiff.mp rfl)] at hL'
      wp_walk
      exact⟨rfl,rfl,_,_,_,_,hrest,hvi',hwi',by omega,hL',hR⟩
     | false =>
      rw [if_neg (fun q=>absurd (hiff.mpr q) Pn)] at hL';cases hL';have hri:=Kk A.in1 ⟨hp,g,d,tk,os⟩ a t c u prog w
      wp_walk using hri
      exact⟨_,rfl,by simpa using hR⟩
  case fin =>
   rintro⟨b1,b2⟩ s' ⟨hb',rfl,vs,ws,ns',ms',hz,hvi,hwi,hlen,hL,hR⟩;simp only at hb';subst hb';have hv:r=decide (items.size < items2.size):=by
    have l1:=hvi.length;have l2:=hwi.length;cases ns' with
    | nil =>
     cases ms' with
     | nil =>
      simp only [P0] at hlen;cases hL;exact(decide_eq_false ‹0›).symm
     | cons c u =>
      simp only [P0,Pp] at hlen;cases hL;exact(decide_eq_true ‹0›).symm
    | cons a t =>
     cases ms' with
     | nil =>
      simp only [P0,Pp] at hlen;cases hL;exact(decide_eq_false ‹0›).symm
     | cons c u =>
      have:=congrArg List.length hz
      simp only [P0,List.length_zip,l1,l2,Pp] at this;omega
   rw [hv] at hR
   wp_walk
   exact⟨_,rfl,by simpa [Builtin.Tuple.tupleCompareSizes] using hR⟩
  case h =>
   exact⟨rfl,rfl,items.toList,items2.toList,ns,ms,rfl,hi,hj,by omega,hr,h⟩
end
section
variable {X:Cx}
theorem vO {α:Type} {c:Bool} {o:Option α} {a:α} (h:(if c then o else none)=some a):c=true/\o=some a:=by
 cases c with
 | true=>exact⟨rfl,h⟩
 | false=>cases h
theorem zG {prog:S0} {w:SZ} {A:Tb} {E:SY->Tc->Prop} {s:Tc} {l b:S3} {items items2:Array SY} {ns ms:List D} {r:Bool} {Q:SY->Tc->Prop} (hl:S7 s.heap l items) (hb:S7 s.heap b items2) (hi:gP items.toList ns) (hj:gP items2.toList ms) (hr:eS ns ms=some r)
  (hu:A.units < TJ) (h:Q (.bool r) s):Te (model prog w) A (Tv .Lt (.ref l) (.ref b)) Q E s:=by
 obtain⟨⟨cls,dd,data,sl⟩,ho,hc,n,hd⟩:=id hl;obtain⟨⟨cls2,dd2,data2,sl2⟩,ho2,hc2,n2,hd2⟩:=id hb;simp only at hc hd hc2 hd2;subst hc hd hc2 hd2;exact richCompare_meets_room (op:=.Lt) ⟨_,ho,rfl⟩ ⟨_,ho2,rfl⟩ PySem.F.slot_tuple_lt PySem.F.entry_tuple_lt (PySem.F.args_tuple_lt_2 _ _) (uV l b items items2 n n2 dd dd2 sl sl2 ns ms r hi hj hr)
  ⟨ho,ho2,show Value.bool r≠Value.notImplemented/\Q (.bool r) s from ⟨(fun x=>nomatch x),h⟩⟩ hu
def rj:List D->Bool
 | []=>true
 | .int _::r=>rj r
 | .str _::r=>rj r
 | _=>false
theorem kL {K:RL} {H:Hp}:∀ {ds:List D} {vs:List V} {us:List SY},rj ds=true->aZ K H ds vs->Vals vs us->gP us ds
 | [],vs,us,_,h,r=>by
  rw [cZ] at h;subst h;cases r;exact .nil
 | d::ds,vs,us,hf,h,r=>by
  obtain⟨v,r',e,h1,h2⟩:=bB.mp h;subst e;cases r with
  | cons q1 q2 =>
   cases d with
   | int i =>
    rw [fW] at h1;subst h1;obtain⟨t,rfl⟩:=q1;exact .int i t (kL hf h2 q2)
   | str x =>
    rw [fU] at h1;subst h1;obtain⟨t,rfl⟩:=q1;exact .str x t (kL hf h2 q2)
   | _=>cases hf
def wA (a b:D):Option D:=match a,b with
 | .int i,.int j=>some (.bl (decide (i < j)))
 | .str x,.str y=>some (.bl (decide (x.cps.toList < y.cps.toList)))
 | .tup xs,.tup ys=>if rj xs && rj ys then (eS xs ys).bind fun r=>some (.bl r) else none
 | _,_=>none
theorem sS (hu:X.A.units+64 < TJ):mr X (Tv .Lt) (rD X.K wA):=by
 intro pins s σ H x y u v Q I rx ry ⟨O,a,b,d,hO,ha,hb,hg,q⟩;cases a with
 | int i =>
  cases b with
  | int j =>
   cases hg;exact Ki pins s σ H x y u v Q I rx ry ⟨i,j,fW.mp ha,fW.mp hb,q _ H (bn.refl H) (lB.mpr rfl)⟩
  | _=>cases hg
 | str i =>
  cases b with
  | str j =>
   cases hg;exact CY pins s σ H x y u v Q I rx ry ⟨i,j,fU.mp ha,fU.mp hb,q _ H (bn.refl H) (lB.mpr rfl)⟩
  | _=>cases hg
 | tup xs =>
  cases b with
  | tup ys =>
   obtain⟨h1,h2⟩:=vO hg;obtain⟨r,e1,e2⟩:=bind_some h2;cases e2;rw [PP] at h1;obtain⟨p,vs,ex,g1,g2⟩:=cJ.mp ha;obtain⟨p',vs',ey,g1',g2'⟩:=cJ.mp hb;subst ex ey;cases rx;cases ry;obtain⟨its,r1,t1,_⟩:=I.tuple (bY (aB H O) g1);obtain⟨its2,r2,t2,_⟩:=I.tuple (bY (aB H O) g1');exact zG t1 t2 (kL h1.1 g2 r1) (kL h1.2 g2' r2) e1 ‹0› (DB I (q _ H (bn.refl H) (lB.mpr rfl)) rfl)
  | _=>cases hg
 | _=>cases hg
end
end TG
namespace TG
open PySem PySem.Spec L2
variable [aX]
def mi (x:Str) (n:Int):Str:=if (n==1 || x.length==0)=true then x else ⟨(List.replicate n.toNat x.cps).foldl (·++·) #[]⟩
theorem foldl_size:∀ (n:Nat) (c a:Array Nat),((List.replicate n c).foldl (·++·) a).size=a.size+n*c.size
 | 0,_,a=>by simp
 | n+1,c,a=>by
  rw [QP,QQ,foldl_size n c,Array.size_append,Nat.succ_mul]; omega
theorem yL {x:Str} {n:Int} (h:1<=n):(mi x n).length=n.toNat*x.length:=by
 unfold mi;split
 ·rename_i q;rw [Qm] at q;rcases q with q | q
  ·have:n=1:=(by simpa using q);rw [this]; simp
  ·have:x.length=0:=(by simpa using q);rw [this]; simp
 ·show ((List.replicate n.toNat x.cps).foldl (·++·) #[]).size=n.toNat*x.cps.size;rw [foldl_size]; simp
def zj (a b:D):Option D:=match a,b with
 | .int i,.int j=>jK (.int i) (.int j)
 | .str x,.int n=>if decide (1<=n/\n<=1000/\x.length<=1000) then some (.str (mi x n)) else none
 | _,_=>none
section
variable {X:Cx}
theorem wK:mr X (Tu .Mult) (rD X.K zj):=by
 intro pins s σ H x y u v Q I rx ry ⟨O,a,b,d,hO,ha,hb,hg,q⟩;cases a with
 | int i =>
  cases b with
  | int j=>exact iQ pins s σ H x y u v Q I rx ry (iS (.int i) (.int j) d x y O H Q hO hg ha hb q)
  | _=>cases hg
 | str z =>
  cases b with
  | int n =>
   obtain⟨h1,h2⟩:=bH hg;subst h2;obtain⟨n1,n2,zl⟩:=of_decide_eq_true h1;rw [fU] at ha;rw [fW] at hb;subst ha hb;obtain⟨t,rfl⟩:=rx;obtain⟨t',rfl⟩:=ry;have zn:z.length*n.toNat<=1000*1000:=Nat.mul_le_mul zl ‹0›;refine P.mul_str (by rw [decide_eq_false ‹0›,decide_eq_false ‹0›]; rfl) (fun _ _=>?_) (fun _ _=>?_) ?_
   ·have:(2 ^ 63 - 1:Int) / n>=(2 ^ 63 - 1) / 1000:=by
     rw [ge_iff_le,Int.le_ediv_iff_mul_le ‹0›];have h3:(2 ^ 63 - 1:Int) / 1000*n<=(2 ^ 63 - 1) / 1000*1000:=Int.mul_le_mul_of_nonneg_left n2 (by decide);have h4:(2 ^ 63 - 1:Int) / 1000*1000<=2 ^ 63 - 1:=(by decide);omega
    have h5:(2 ^ 63 - 1:Int) / 1000=9223372036854775:=(by decide);omega
   ·unfold Builtin.Str.tooLong;rw [decide_eq_false];rw [Tx]; omega
   ·rw [if_neg ‹0›];have fin:∀ tk,EP X pins σ Q (.str (mi z n) tk) { s with toks:=s.toks+1 }/\EP X pins σ Q (.str (mi z n) tk) s:=fun tk=>⟨⟨.str (mi z n),H,I.tok _,⟨_,rfl⟩,q _ H (bn.refl H) (fU.mpr rfl)⟩,⟨.str (mi z n),H,I,⟨_,rfl⟩,q _ H (bn.refl H) (fU.mpr rfl)⟩⟩
    by_cases e:(n==1 || z.length==0)=true
    ·rw [if_pos e]
     have:mi z n=z:=(by unfold mi; rw [if_pos e]);rw [this] at fin;exact(fin t).2
    ·rw [if_neg e];have e2:mi z n=⟨(List.replicate n.toNat z.cps).foldl (·++·) #[]⟩:=(by unfold mi; rw [if_neg e]);rw [e2] at fin;refine⟨?_,(fin _).1⟩;have rl:=yL (x:=z) (n:=n) ‹0›;rw [e2] at rl;rw [rl,Tx,Nat.mul_comm]; omega
  | _=>cases hg
 | _=>cases hg
end
end TG
namespace TG
open PySem PySem.Spec PyProof.Rows PySem.W L2
variable [aX]
theorem sI:∀ a:List Nat,¬ a < a
 | []=>QR _
 | x::xs=>fun h=>by
  rcases List.cons_lt_cons_iff.mp h with h | ⟨_,h⟩
  ·omega
  ·exact sI xs h
theorem mJ:∀ {a b c:List Nat},a < b->b < c->a < c
 | _,_,[],_,h=>absurd h (QR _)
 | _,[],_::_,h,_=>absurd h (QR _)
 | [],_::_,_::_,_,_=>QS _ _
 | x::xs,y::ys,z::zs,h,h'=>by
  rw [QT] at h h' ⊢;rcases h with h | ⟨e,h⟩ <;> rcases h' with h' | ⟨e',h'⟩
  ·exact .inl ‹0›
  ·exact .inl ‹0›
  ·exact .inl ‹0›
  ·exact .inr ⟨by omega,mJ h h'⟩
theorem EV:∀ a b:List Nat,a < b\/a=b\/b < a
 | [],[]=>.inr (.inl rfl)
 | [],_::_=>.inl (QS _ _)
 | _::_,[]=>.inr (.inr (QS _ _))
 | x::xs,y::ys=>by
  rw [QT,QT];rcases Nat.lt_trichotomy x y with h | h | h
  ·exact .inl (.inl h)
  ·rcases EV xs ys with q | q | q
   ·exact .inl (.inr ⟨h,q⟩)
   ·exact .inr (.inl (by rw [h,q]))
   ·exact .inr (.inr (.inr ⟨h.symm,q⟩))
  ·exact .inr (.inr (.inl h))
theorem Ea {x y:Str} (h:x.cps.toList=y.cps.toList):x=y:=by
 cases x; cases y;congr 1;exact Array.toList_inj.mp h
inductive Sh:List Bool->List D->Prop where
 | nil:Sh [] []
 | int (i:Int) {bs:List Bool} {ds:List D} (h:Sh bs ds):Sh (true::bs) (.int i::ds)
 | str (x:Str) {bs:List Bool} {ds:List D} (h:Sh bs ds):Sh (false::bs) (.str x::ds)
theorem Sh.length:∀ {σ:List Bool} {a:List D},Sh σ a->a.length=σ.length
 | _,_,.nil=>rfl
 | _,_,.int _ h=>by rw [Pp,Pp,h.length]
 | _,_,.str _ h=>by rw [Pp,Pp,h.length]
theorem rT:∀ {σ:List Bool} {a:List D},Sh σ a->rj a=true
 | _,_,.nil=>rfl
 | _,_,.int i h=>by
  unfold rj; exact rT h
 | _,_,.str i h=>by
  unfold rj; exact rT h
theorem pJ (i j:Int) (as bs:List D):eS (.int i::as) (.int j::bs)=if i=j then eS as bs else some (decide (i < j)):=by rw [eS]
theorem pc (x y:Str) (as bs:List D):eS (.str x::as) (.str y::bs)=if x=y then eS as bs else some (decide (x.cps.toList < y.cps.toList)):=by rw [eS]
theorem DY:eS [] []=some false:=by rw [eS]
theorem lH:∀ {σ:List Bool} {a:List D},Sh σ a->eS a a=some false
 | _,_,.nil=>DY
 | _,_,.int i h=>by rw [pJ,if_pos rfl]; exact lH h
 | _,_,.str x h=>by rw [pc,if_pos rfl]; exact lH h
theorem nN:∀ {σ:List Bool} {a b:List D},Sh σ a->Sh σ b->(eS a b=some true/\eS b a=some false/\a≠b)\/a=b\/(eS b a=some true/\eS a b=some false/\a≠b)
 | _,_,_,.nil,.nil=>.inr (.inl rfl)
 | _,_,_,.int i h,.int j h'=>by
  rw [pJ,pJ];by_cases e:i=j
  ·subst e;rw [if_pos rfl,if_pos rfl];rcases nN h h' with ⟨q1,q2,q3⟩ | q | ⟨q1,q2,q3⟩
   ·exact .inl ⟨q1,q2,fun z=>q3 (by injection z)⟩
   ·exact .inr (.inl (by rw [q]))
   ·exact .inr (.inr ⟨q1,q2,fun z=>q3 (by injection z)⟩)
  ·rw [if_neg e,if_neg (fun z=>e z.symm)];rcases Int.lt_or_gt_of_ne e with q | q
   ·exact .inl ⟨by rw [decide_eq_true q],by rw [decide_eq_false ‹0›],fun z=>e (by injection z with z1; injection z1)⟩
   ·exact .inr (.inr ⟨by rw [decide_eq_true q],by rw [decide_eq_false ‹0›],fun z=>e (by injection z with z1; injection z1)⟩)
 | _,_,_,.str x h,.str y h'=>by
  rw [pc,pc];by_cases e:x=y
  ·subst e;rw [if_pos rfl,if_pos rfl];rcases nN h h' with ⟨q1,q2,q3⟩ | q | ⟨q1,q2,q3⟩
   ·exact .inl ⟨q1,q2,fun z=>q3 (by injection z)⟩
   ·exact .inr (.inl (by rw [q]))
   ·exact .inr (.inr ⟨q1,q2,fun z=>q3 (by injection z)⟩)
  ·rw [if_neg e,if_neg (fun z=>e z.symm)];rcases EV x.cps.toList y.cps.toList with q | q | q
   ·exact .inl ⟨by rw [decide_eq_true q],by rw [decide_eq_false fun z=>sI _ (mJ q z)],fun z=>e (by injection z with z1; injection z1)⟩
   ·exact absurd (Ea q) e
   ·exact .inr (.inr ⟨by rw [decide_eq_true q],by rw [decide_eq_false fun z=>sI _ (mJ q z)],fun z=>e (by injection z with z1; injection z1)⟩)
theorem nA:∀ {σ:List Bool} {a b c:List D},Sh σ a->Sh σ b->Sh σ c->eS a b=some true->eS b c=some true->eS a c=some true
 | _,_,_,_,.nil,.nil,.nil,h,_=>by rw [DY] at h; cases h
 | _,_,_,_,.int i h,.int j h',.int k h'',q,q'=>by
  rw [pJ] at q q' ⊢;by_cases e:i=j
  ·subst e;rw [if_pos rfl] at q;by_cases e':i=k
   ·subst e';rw [if_pos rfl] at q' ⊢;exact nA h h' h'' q q'
   ·rw [if_neg e'] at q' ⊢;exact q'
  ·rw [if_neg e] at q;have q1:=of_decide_eq_true (Option.some.inj q);by_cases e':j=k
   ·subst e';rw [if_neg e,decide_eq_true q1]
   ·rw [if_neg e'] at q';have q2:=of_decide_eq_true (Option.some.inj q');rw [if_neg ‹0›,decide_eq_true ‹0›]
 | _,_,_,_,.str i h,.str j h',.str k h'',q,q'=>by
  rw [pc] at q q' ⊢;by_cases e:i=j
  ·subst e;rw [if_pos rfl] at q;by_cases e':i=k
   ·subst e';rw [if_pos rfl] at q' ⊢;exact nA h h' h'' q q'
   ·rw [if_neg e'] at q' ⊢;exact q'
  ·rw [if_neg e] at q;have q1:=of_decide_eq_true (Option.some.inj q);by_cases e':j=k
   ·subst e';rw [if_neg e,decide_eq_true q1]
   ·rw [if_neg e'] at q';have q2:=of_decide_eq_true (Option.some.inj q');rw [if_neg (show ¬ i=k from fun z=>by rw [z] at q1; exact sI _ (mJ q1 q2)),decide_eq_true (mJ q1 q2)]
theorem yF {σ:List Bool} {a b:List D} (h:Sh σ a) (h':Sh σ b) (q:eS a b=some true):eS b a=some false:=by
 rcases nN h h' with ⟨_,q2,_⟩ | e | ⟨_,q2,_⟩
 ·exact q2
 ·subst e; rw [lH h] at q; cases q
 ·rw [q2] at q; cases q
def kLt (a b:List D):Bool:=eS a b==some true
theorem GK {a b:List D}:kLt a b=true↔eS a b=some true:=by unfold kLt; simp
section
variable {α:Type}
def C8 (key:α->List D) (x:α):List α->List α
 | []=>[x]
 | y::ys=>if kLt (key x) (key y) then x::y::ys else y::C8 key x ys
def iX (key:α->List D):List α->List α
 | []=>[]
 | x::xs=>C8 key x (iX key xs)
theorem qx (key:α->List D) (x:α):∀ ys:List α,(C8 key x ys).Perm (x::ys)
 | []=>.refl _
 | y::ys=>by
  unfold C8;split
  ·exact .refl _
  ·exact(List.Perm.cons y (qx key x ys)).trans (.swap x y ys)
theorem gf (key:α->List D):∀ xs:List α,(iX key xs).Perm xs
 | []=>.refl _
 | x::xs=>(qx key x _).trans (.cons x (gf key xs))
def yU (key:α->List D) (xs:List α):Prop:=xs.Pairwise fun x y=>eS (key x) (key y)=some true
theorem zm {key:α->List D} {σ:List Bool} {x:α} (hx:Sh σ (key x)):∀ {ys:List α},(∀ y∈ys,Sh σ (key y)/\key x≠key y)->yU key ys->yU key (C8 key x ys)
 | [],_,_=>QU _ _
 | y::ys,h,p=>by
  have p':=List.pairwise_cons.mp p;obtain⟨hy,ne⟩:=h y O6;unfold C8;split
  ·rename_i q;have q:=GK.mp q;refine List.pairwise_cons.mpr ⟨fun z hz=>?_,p⟩;rcases List.mem_cons.mp hz with rfl | hz
   ·exact q
   ·exact nA hx hy (h z (O7 _ hz)).1 q (p'.1 z hz)
  ·rename_i q;have q:eS (key y) (key x)=some true:=by
    rcases nN hx hy with ⟨z,_⟩ | z | ⟨z,_⟩
    ·exact absurd (GK.mpr z) q
    ·exact absurd z ne
    ·exact z
   refine List.pairwise_cons.mpr ⟨fun z hz=>?_,zm hx (fun z hz=>h z (O7 _ hz)) p'.2⟩;rcases List.mem_cons.mp ((qx key x ys).mem_iff.mp hz) with rfl | hz
   ·exact q
   ·exact p'.1 z hz
theorem nD {key:α->List D} {σ:List Bool}:∀ {xs:List α},(∀ x∈xs,Sh σ (key x))->xs.Pairwise (fun x y=>key x≠key y)->yU key (iX key xs)
 | [],_,_=>List.Pairwise.nil
 | x::xs,h,p=>by
  have p':=List.pairwise_cons.mp p;refine zm (h x O6) (fun y hy=>?_) (nD (fun y hy=>h y (O7 _ hy)) p'.2);have hy:=(gf key xs).mem_iff.mp hy;exact⟨h y (O7 _ hy),p'.1 y hy⟩
theorem Be {key:α->List D} {σ:List Bool}:∀ {xs ys:List α},(∀ x∈xs,Sh σ (key x))->yU key xs->yU key ys->xs.Perm ys->xs=ys
 | [],ys,_,_,_,e=>(List.perm_nil.mp e.symm).symm
 | x::xs,[],_,_,_,e=>List.perm_nil.mp e
 | x::xs,y::ys,h,p,q,e=>by
  have p':=List.pairwise_cons.mp p;have q':=List.pairwise_cons.mp q;have exy:x=y:=by
   rcases List.mem_cons.mp (e.mem_iff.mp O6) with z | z
   ·exact z
   ·have w1:=q'.1 x z;rcases List.mem_cons.mp (e.symm.mem_iff.mp O6) with z' | z'
    ·exact z'.symm
    ·have w2:=p'.1 y z'
     have:=yF (h x O6) (h y (O7 _ z')) w2
     rw [w1] at this; cases this
  subst exy;rw [Be (fun z hz=>h z (O7 _ hz)) p'.2 q'.2 (List.Perm.cons_inv e)]
theorem mY {key:α->List D} {σ:List Bool} {xs ys:List α} (h:∀ x∈xs,Sh σ (key x)) (p:xs.Pairwise fun x y=>key x≠key y) (q:yU key ys) (e:ys.Perm xs):iX key xs=ys :=
 Be (fun x hx=>h x ((gf key xs).mem_iff.mp hx)) (nD h p) q ((gf key xs).trans e.symm)
def rank (ks:List (List D)) (i:Nat):Nat:=(ks.filter fun k=>kLt k (ks.getD i [])).length
theorem rZ {ks:List (List D)} {σ:List Bool} (h:∀ k∈ks,Sh σ k) {i j:Nat} (hi:i < ks.length) (hj:j < ks.length):decide (rank ks i < rank ks j)=kLt (ks.getD i []) (ks.getD j []):=by
 have gi:ks.getD i []=ks[i]:=by simp [hi]
 have gj:ks.getD j []=ks[j]:=by simp [hj]
 have mono:∀ a b:List D,Sh σ a->Sh σ b->eS a b=some true->∀ l:List (List D),(∀ k∈l,Sh σ k)->(l.filter fun k=>kLt k a).length<=(l.filter fun k=>kLt k b).length/\(a∈l->(l.filter fun k=>kLt k a).length < (l.filter fun k=>kLt k b).length):=by
  intro a b ha hb hab l
  induction l with
  | nil=>exact fun _=>⟨Ph _,fun z=>nomatch z⟩
  | cons k l ih =>
   intro hl;obtain⟨i1,i2⟩:=ih fun z hz=>hl z (O7 _ hz);have hk:=hl k O6;by_cases q:kLt k a=true
   ·have q':kLt k b=true:=GK.mpr (nA hk ha hb (GK.mp q) hab);rw [QV (p:=fun k=>kLt k a) q,QV (p:=fun k=>kLt k b) q',Pp,Pp];refine⟨by omega,fun z=>?_⟩;rcases List.mem_cons.mp z with rfl | z
    ·rw [GK,lH ha] at q; cases q
    ·have:=i2 z; omega
   ·rw [QW (p:=fun k=>kLt k a) q];by_cases q':kLt k b=true
    ·rw [QV (p:=fun k=>kLt k b) q',Pp];exact⟨by omega,fun _=>by omega⟩
    ·rw [QW (p:=fun k=>kLt k b) q'];refine⟨i1,fun z=>?_⟩;rcases List.mem_cons.mp z with rfl | z
     ·exact absurd (GK.mpr hab) q'
     ·exact i2 z
 unfold rank;rw [gi,gj];have hi':=h _ (QX hi);have hj':=h _ (QX hj);rcases nN hi' hj' with ⟨z,_⟩ | z | ⟨z,z',_⟩
 ·rw [GK.mpr z];exact decide_eq_true ((mono _ _ hi' hj' z ks h).2 (QX hi))
 ·rw [z]
  have:kLt ks[j] ks[j]=false:=by unfold kLt; rw [lH hj']; rfl
  rw [this];exact decide_eq_false (O0 _)
 ·have e:kLt ks[i] ks[j]=false:=by unfold kLt; rw [z']; rfl
  rw [e];exact decide_eq_false (Nat.not_lt.mpr (mono _ _ hj' hi' z ks h).1)
end
section
variable {cmp:Nat->Nat->(Bool->Tc->Prop)->Tc->Prop} {r:Nat->Nat} {N:Nat}
def mL (cmp:Nat->Nat->(Bool->Tc->Prop)->Tc->Prop) (r:Nat->Nat) (N:Nat) (s:Tc):Prop:=∀ (i j:Nat) (C:Bool->Tc->Prop),i < N->j < N->C (decide (r i < r j)) s->cmp i j C s
def PM (N:Nat) (p:Array Nat):Prop:=p.Perm (List.toArray (List.range N))
theorem PM.size {p:Array Nat} (h:PM N p):p.size=N:=by
 have:=h.size_eq; simpa using this
theorem PM.lt {p:Array Nat} (h:PM N p) {i:Nat} (hi:i < N):p.getD i 0 < N:=by
 have hs:=h.size;have e:p.getD i 0=p[i]'‹0›:=by simp [Array.getD,hs,hi]
 rw [e];have m:p[i]'‹0›∈p:=Array.getElem_mem _
 have:=(h.mem_iff (a:=p[i]'‹0›)).mp m
 simpa using this
theorem PM.rev {p:Array Nat} (h:PM N p) (i j:Nat):PM N (kas_rev p i j):=(mirror_perm p i j _).trans h
abbrev Rk (r:Nat->Nat) (p:Array Nat) (i:Nat):Nat:=r (p.getD i 0)
theorem xu {p:Array Nat} {i j:Nat} (hj:j<=p.size) (k:Nat):Rk r (kas_rev p i j) k=if i<=k/\k < j then Rk r p (i+j - 1 - k) else Rk r p k:=by
 have e:=getElem?_mirror_all (xs:=p) (i:=i) (j:=j) hj k;have g:∀ (q:Array Nat) (k:Nat),q.getD k 0=(q[k]?).getD 0:=fun q k=>by simp
 show r ((kas_rev p i j).getD k 0)=_;rw [g];show r (((mirror p i j ((j - i) / 2))[k]?).getD 0)=_;rw [e];split
 ·show _=r (p.getD _ 0); rw [g]
 ·show _=r (p.getD _ 0); rw [g]
theorem Fd {p:Array Nat} {src d:Nat} (hs:src < p.size) (hd:d<=src) (k:Nat):Rk r (bubble p src d) k=if k=src - d then Rk r p src else if src - d < k/\k<=src then Rk r p (k - 1) else Rk r p k:=by
 have e:=getElem?_bubble (xs:=p) hs d hd k;have g:∀ (q:Array Nat) (k:Nat),q.getD k 0=(q[k]?).getD 0:=fun q k=>by simp
 show r ((bubble p src d).getD k 0)=_;rw [g,e];split
 ·show _=r (p.getD _ 0); rw [g]
 ·split
  ·show _=r (p.getD _ 0); rw [g]
  ·show _=r (p.getD _ 0); rw [g]
def Up (r:Nat->Nat) (p:Array Nat) (k:Nat):Prop:=∀ i j,i<=j->j < k->Rk r p i<=Rk r p j
def Dn (r:Nat->Nat) (p:Array Nat) (k:Nat):Prop:=∀ i j,i<=j->j < k->Rk r p j<=Rk r p i
variable {s:Tc}
theorem zB (hc:mL cmp r N s) {p:Array Nat} (hp:PM N p) {G:Nat->Tc->Prop}:∀ (f n:Nat),1<=n->n+f<=N->Up r p n->(∀ m,n<=m->m<=n+f->Up r p m->(m=n+f\/Rk r p m < Rk r p (m - 1))->G m s)->(kas_asc p f n).kasWp cmp G s
 | 0,n,_,_,u,h=>h n (Ph _) (Ph _) u (.inl rfl)
 | f+1,n,h1,h2,u,h=>by
  refine hc _ _ _ (hp.lt ‹0›) (hp.lt ‹0›) ?_;by_cases q:Rk r p n < Rk r p (n - 1)
  ·rw [decide_eq_true q]; dsimp only; rw [if_pos rfl];exact h n (Ph _) ‹0› u (.inr q)
  ·rw [decide_eq_false q]; dsimp only; rw [if_neg Pn];refine zB hc hp f (n+1) ‹0› ‹0› (fun i j hij hj=>?_) fun m a b=>?_
   ·by_cases hjn:j < n
    ·exact u i j hij hjn
    ·have ej:j=n:=(by omega);subst ej;by_cases ei:i=j
     ·subst ei; exact Ph _
     ·have:=u i (j - 1) ‹0› ‹0›
      omega
   ·intro um hm;exact h m ‹0› ‹0› um (by rcases hm with z | z; exact .inl ‹0›; exact .inr z)
theorem DR {p:Array Nat} {n q:Nat} (hn:n<=p.size) (hq:q+1<=n) (he:∀ i,n - (q+1)<=i->i < n->Rk r p i=Rk r p (n - 1)) (k:Nat):Rk r (kas_rev p (n - (q+1)) n) k=Rk r p k:=by
 rw [xu hn];split
 ·rename_i h;rw [he _ ‹0› ‹0›,he k h.1 h.2]
 ·rfl
theorem rY (hc:mL cmp r N s) {G:Array Nat×Nat×Nat->Tc->Prop}:∀ (f:Nat) (p:Array Nat) (n q:Nat),PM N p->1<=n->n+f<=N->Dn r p n->q+1<=n->(∀ i,n - (q+1)<=i->i < n->Rk r p i=Rk r p (n - 1)) ->
  (∀ p' m q',PM N p'->n<=m->m<=n+f->Dn r p' m->q'+1<=m->(∀ i,m - (q'+1)<=i->i < m->Rk r p' i=Rk r p' (m - 1))->G (p',m,q') s)->(kas_desc f p n q).kasWp cmp G s
 | 0,p,n,q,hp,_,_,d,hq,he,h=>h p n q hp (Ph _) (Ph _) d hq he
 | f+1,p,n,q,hp,h1,h2,d,hq,he,h=>by
  have hs:=hp.size;have step:∀ p',(∀ k,Rk r p' k=Rk r p k)->Rk r p n<=Rk r p (n - 1)->Dn r p' (n+1):=fun p' hk hl i j hij hj=>by
   rw [hk,hk];by_cases hjn:j < n
   ·exact d i j hij hjn
   ·have ej:j=n:=(by omega);subst ej;by_cases ei:i=j
    ·subst ei; exact Ph _
    ·have:=d i (j - 1) ‹0› ‹0›
     omega
  refine hc _ _ _ (hp.lt ‹0›) (hp.lt ‹0›) ?_;by_cases q1:Rk r p n < Rk r p (n - 1)
  ·rw [decide_eq_true q1]; dsimp only; rw [if_pos rfl];by_cases hq0:q > 0
   ·rw [if_pos hq0];refine rY hc f _ (n+1) 0 (hp.rev _ _) ‹0› ‹0› (step _ (DR ‹0› hq he) ‹0›) ‹0› (fun i a b=>by rw [show i=n+1 - 1 by omega]) fun p' m q' a b c=>h p' m q' a ‹0› ‹0›
   ·rw [if_neg hq0];refine rY hc f _ (n+1) 0 hp ‹0› ‹0› (step _ (fun _=>rfl) ‹0›) ‹0› (fun i a b=>by rw [show i=n+1 - 1 by omega]) fun p' m q' a b c=>h p' m q' a ‹0› ‹0›
  ·rw [decide_eq_false q1]; dsimp only; rw [if_neg Pn];refine hc _ _ _ (hp.lt ‹0›) (hp.lt ‹0›) ?_;by_cases q2:Rk r p (n - 1) < Rk r p n
   ·rw [decide_eq_true q2]; dsimp only; rw [if_pos rfl];exact h p n q hp (Ph _) ‹0› d hq he
   ·rw [decide_eq_false q2]; dsimp only; rw [if_neg Pn];refine rY hc f _ (n+1) (q+1) hp ‹0› ‹0› (step _ (fun _=>rfl) ‹0›) ‹0› (fun i a b=>?_) fun p' m q' a b c=>h p' m q' a ‹0› ‹0›;rw [show n+1 - 1=n by omega];by_cases ei:i=n
    ·subst ei; rfl
    ·have:=he i ‹0› ‹0›
     omega
theorem yC (hc:mL cmp r N s) {p:Array Nat} (hp:PM N p) {n:Nat} (h1:1<=n) (hn:n<=N) (d:Dn r p n) {G:Nat×Array Nat->Tc->Prop} (h:∀ m p',PM N p'->1<=m->m<=N->Up r p' m->G (m,p') s):(kas_tail3 n N p).kasWp cmp G s:=by
 unfold kas_tail3;rw [KasT.kasWp_bind];have hs:=hp.size;refine zB hc (hp.rev 0 n) _ _ h1 ‹0› (fun i j hij hj=>?_) fun m a b u _=>h m _ (hp.rev 0 n) ‹0› ‹0› u;rw [xu ‹0›,xu ‹0›,if_pos ‹0›,if_pos ‹0›];exact d _ _ ‹0› ‹0›
theorem rh (hc:mL cmp r N s) {p:Array Nat} (hp:PM N p) {n:Nat} (hn:n+1<=N) (d:Dn r p (n+1)) {G:Nat×Array Nat->Tc->Prop} (h:∀ m p',PM N p'->1<=m->m<=N->Up r p' m->G (m,p') s):(kas_descPart n N p).kasWp cmp G s:=by
 unfold kas_descPart;rw [KasT.kasWp_bind];refine rY hc _ _ _ _ hp ‹0› ‹0› d ‹0› (fun i a b=>by rw [show i=n+1 - 1 by omega]) fun p' m q' hp' a b d' hq he=>?_;have hs:=hp'.size;dsimp only;by_cases hq0:q' > 0
 ·rw [if_pos hq0];refine yC hc (hp'.rev _ _) ‹0› ‹0› (fun i j hij hj=>?_) h;rw [DR ‹0› hq he,DR ‹0› hq he];exact d' i j hij hj
 ·rw [if_neg hq0];exact yC hc hp' ‹0› ‹0› d' h
theorem DA (hc:mL cmp r N s) (h1:1<=N) {p:Array Nat} (hp:PM N p) {G:Nat×Array Nat->Tc->Prop} (h:∀ m p',PM N p'->1<=m->m<=N->Up r p' m->G (m,p') s):(kas_count N p).kasWp cmp G s:=by
 unfold kas_count;rw [KasT.kasWp_bind];have hs:=hp.size;refine zB hc hp _ _ (Ph _) ‹0› (fun i j hij hj=>by rw [show i=j by omega]; exact Ph _) fun n a b u hor=>?_;by_cases hn:n=N
 ·rw [if_pos (by simpa using hn)];exact h n p hp a ‹0› u
 ·rw [if_neg (by simpa using hn)];have hlt:Rk r p n < Rk r p (n - 1):=by
   rcases hor with z | z
   ·omega
   ·exact z
  by_cases hg:n > 1
  ·rw [if_pos hg];refine hc _ _ _ (hp.lt ‹0›) (hp.lt ‹0›) ?_;by_cases q:Rk r p 0 < Rk r p (n - 1)
   ·rw [decide_eq_true q]; dsimp only; rw [if_pos rfl];exact h n p hp a ‹0› u
   ·rw [decide_eq_false q]; dsimp only; rw [if_neg Pn];have hall:∀ k,k < n->Rk r p k=Rk r p (n - 1):=fun k hk=>by
     have a1:=u 0 k ‹0› hk;have a2:=u k (n - 1) ‹0› ‹0›;omega
    have hr:∀ k,Rk r (kas_rev p 0 n) k=Rk r p k:=fun k=>by
     rw [xu ‹0›];split
     ·rename_i z;rw [hall _ ‹0›,hall k z.2]
     ·rfl
    refine rh hc (hp.rev _ _) ‹0› (fun i j hij hj=>?_) h;rw [hr,hr];by_cases hjn:j < n
    ·rw [hall i ‹0›,hall j hjn]; exact Ph _
    ·have ej:j=n:=(by omega);subst ej;by_cases ei:i=j
     ·subst ei; exact Ph _
     ·rw [hall i ‹0›]; omega
  ·rw [if_neg hg];have en:n=1:=(by omega);subst en;refine rh hc hp ‹0› (fun i j hij hj=>?_) h;by_cases ei:i=j
   ·subst ei; exact Ph _
   ·have e0:i=0:=(by omega);have e1:j=1:=(by omega);subst e0 e1;exact O3 hlt
theorem tJ (hc:mL cmp r N s) {p:Array Nat} (hp:PM N p) {k:Nat} (hk:k < N) (u:Up r p k) {G:Nat->Tc->Prop} (h:∀ l,l<=k->(∀ i,i < l->Rk r p i<=Rk r p k)->(∀ i,l<=i->i < k->Rk r p k < Rk r p i)->G l s) :
  ∀ (f l t:Nat),t - l<=f->l<=t->t<=k->(∀ i,i < l->Rk r p i<=Rk r p k)->(∀ i,t<=i->i < k->Rk r p k < Rk r p i)->(kas_place p k f l t).kasWp cmp G s
 | 0,l,t,a,b,c,d,e=>h l ‹0› d fun i x y=>e i ‹0› y
 | f+1,l,t,a,b,c,d,e=>by
  unfold kas_place;by_cases hl:l>=t
  ·rw [if_pos hl];exact h l ‹0› d fun i x y=>e i ‹0› y
  ·rw [if_neg hl];refine hc _ _ _ (hp.lt hk) (hp.lt ‹0›) ?_;by_cases q:Rk r p k < Rk r p ((l+t) / 2)
   ·rw [decide_eq_true q]; dsimp only; rw [if_pos rfl];refine tJ hc hp hk u h f l ((l+t) / 2) ‹0› ‹0› ‹0› d fun i x y=>?_
    have:=u ((l+t) / 2) i x y
    omega
   ·rw [decide_eq_false q]; dsimp only; rw [if_neg Pn];refine tJ hc hp hk u h f ((l+t) / 2+1) t ‹0› ‹0› ‹0› (fun i x=>?_) e
    have:=u i ((l+t) / 2) ‹0› ‹0›
    omega
theorem DE (hc:mL cmp r N s) {G:Array Nat->Tc->Prop} (h:∀ p,PM N p->Up r p N->G p s):∀ (f:Nat) (p:Array Nat) (k:Nat),PM N p->k+f=N->Up r p k->(kas_bin f p k).kasWp cmp G s
 | 0,p,k,hp,e,u=>h p hp (by rw [<- e]; exact u)
 | f+1,p,k,hp,e,u=>by
  unfold kas_bin;rw [KasT.kasWp_bind];have hs:=hp.size;refine tJ hc hp ‹0› u (fun l hl d e'=>?_) k 0 k ‹0› (Pu _) (Ph _) (fun i x=>by omega) fun i x y=>by omega
  refine DE hc h f _ (k+1) ((bubble_perm p k _).trans hp) ‹0› fun i j hij hj=>?_;rw [Fd ‹0› ‹0›,Fd ‹0› ‹0›,show k - (k - l)=l by omega];have U:=u;by_cases i1:i=l
  ·rw [if_pos i1];by_cases j1:j=l
   ·rw [if_pos j1]; exact Ph _
   ·rw [if_neg j1,if_pos ‹0›];exact O3 (e' (j - 1) ‹0› ‹0›)
  ·rw [if_neg i1];by_cases i2:l < i/\i<=k
   ·rw [if_pos i2,if_neg ‹0›,if_pos ‹0›];exact U _ _ ‹0› ‹0›
   ·rw [if_neg i2];by_cases j1:j=l
    ·rw [if_pos j1]; exact d i ‹0›
    ·rw [if_neg j1];by_cases j2:l < j/\j<=k
     ·rw [if_pos j2];exact U _ _ ‹0› ‹0›
     ·rw [if_neg j2];exact U _ _ hij ‹0›
theorem A7 (hc:mL cmp r N s) (h2:1<=N) {G:Array Nat->Tc->Prop} (h:∀ p,PM N p->Up r p N->G p s):(kas_sort N).kasWp cmp G s:=by
 unfold kas_sort;rw [KasT.kasWp_bind];refine DA hc h2 (Array.Perm.refl _) fun m p' hp a b u=>?_;dsimp only;by_cases hm:m < N
 ·rw [if_pos hm,show max m 1=m by omega];exact DE hc h _ p' m hp ‹0› u
 ·rw [if_neg hm];exact h p' hp (by rw [show N=m by omega]; exact u)
end
section
variable {prog:S0} {w:SZ} {A:Tb} {E:SY->Tc->Prop} {s:Tc}
theorem uK {a:S3} {vs:List SY} {n:Nat} {P:PySem.Fin->Tc->Prop} {κ:Uz} {r:Nat->Nat} (ho:s.heap.get? a=some (seqObj "list" vs.toArray n)) (h64:vs.length < 64)
  (hk:2<=vs.length->∀ h':S5,(∀ b o,b≠a->s.heap.get? b=some o->h'.get? b=some o)->∀ (Q:Uz->Tc->Prop),Q κ { s with heap:=h' }->Te (model prog w) A (keyKind' vs.toArray) Q E { s with heap:=h' })
  (hr:2<=vs.length->∀ h':S5,(∀ b o,b≠a->s.heap.get? b=some o->h'.get? b=some o)->mL (UA prog w A κ vs) r vs.length { s with heap:=h' })
  (h:∀ p:Array Nat,PM vs.length p->Up r p vs.length->P (.done (.ret .none)) { s with heap:=sortedHeap s.heap a vs (List.toArray (p.toList.map fun i=>vs.getD i Value.none)) }) :
  Te (model prog w) A (Builtin.«list.sort» ⟨[.ref a],[]⟩) P E s:=by
 rw [list_sort_plain];have ha:a < s.heap.objs.size:=Si ho;refine Tp (listItems_at ho rfl ?_);refine Tp (UB ho rfl ?_ (by rw [Pm,Tx]; omega) (Pu _));obtain⟨e1,ho1⟩:∃ e1,(s.heap.update a (Obj.mapSeq fun _=>(#[]:Array SY))).get? a=some (seqObj "list" #[] e1):=⟨_,UC ho (fun _=>#[])⟩
 refine Tp (UD ho1 rfl ?_);refine Tp (Uv ?_ (by show vs.length<=_; rw [Tx]; omega));refine Tp (UE ?_ (Pu _));refine T5 ?_;have ho6:(((s.heap.update a (Obj.mapSeq fun _=>(#[]:Array SY))).push (seqObj "tuple" vs.toArray 0)).push (seqObj "list" #[] 0)).get? a=some (seqObj "list" #[] e1):=by
  rw [Sv _ _ _ (by rw [size_push',Sw]; exact O1 (Qa ha)),Sv _ _ _ (by rw [Sw]; exact O1 ha)];exact ho1
 have kept:∀ b o,b≠a->s.heap.get? b=some o->(((s.heap.update a (Obj.mapSeq fun _=>(#[]:Array SY))).push (seqObj "tuple" vs.toArray 0)).push (seqObj "list" #[] 0)).get? b=some o:=fun b o hb e =>
  Sn _ (Sn _ (by rw [Sx _ _ _ _ hb]; exact e))
 show Te (model prog w) A _ P E { s with heap:=((s.heap.update a (Obj.mapSeq fun _=>(#[]:Array SY))).push (seqObj "tuple" vs.toArray 0)).push (seqObj "list" #[] 0) };dsimp only;have hsz:vs.toArray.size=vs.length:=by simp
 by_cases h2:vs.toArray.size < 2
 ·rw [if_pos h2,if_pos h2];refine Tp (To ?_);rw [StateT.run_pure];refine Tp (To ?_);dsimp only;refine Tp (UD ho6 rfl ?_);have hout:(arrOf (SortSt.mk' general' (vs.toArray.zip vs.toArray) #[] 7 none)).map (·.2)=List.toArray ((List.toArray (List.range vs.length)).toList.map fun i=>vs.getD i Value.none):=by
   refine kat_snds rfl ?_;show vs.toArray.zip vs.toArray=_;have e:=kas_range (vs.toArray.zip vs.toArray);rw [show (vs.toArray.zip vs.toArray).size=vs.length by simp] at e;exact e.symm
  rw [hout];refine Tp (UB ho6 rfl ?_ (Pu _) (by rw [Pm,Pr,Tx]; simp; omega));simp only [bne_self_eq_false,P9,if_false];refine To (h _ (Array.Perm.refl _) fun i j hij hj=>?_)
  have:i=j:=by omega
  subst this; exact Ph _
 ·rw [if_neg h2,if_neg h2];have h2':2<=vs.length:=by omega
  refine Tp (hk h2' _ kept _ ?_);refine Tp (Ti (kat_run (Q:=fun st' s'=>∃ p:Array Nat,arrOf st'=p.map (kas_item (vs.toArray.zip vs.toArray))/\failedOf st'=none/\PM vs.length p/\Up r p vs.length/\s'={ s with heap:=((s.heap.update a (Obj.mapSeq fun _=>(#[]:Array SY))).push (seqObj "tuple" vs.toArray 0)).push (seqObj "list" #[] 0) })
   (G:=fun p s'=>PM vs.length p/\Up r p vs.length/\s'={ s with heap:=((s.heap.update a (Obj.mapSeq fun _=>(#[]:Array SY))).push (seqObj "tuple" vs.toArray 0)).push (seqObj "list" #[] 0) })
   rfl h2' h64 (fun p' st' s' a1 a2 a3 a4=>⟨p',a2,a3,a4.1,a4.2.1,a4.2.2⟩) (A7 (hr h2' _ kept) ‹0› fun p hp hu=>⟨hp,hu,rfl⟩)) ?_ fun _ _ e=>e)
  rintro⟨⟨⟩,st'⟩ s' ⟨p,har,hf,hp,hu,rfl⟩;dsimp only;refine Tp (UD ho6 rfl ?_);have hout:=kat_snds rfl har;rw [hout];refine Tp (UB ho6 rfl ?_ (Pu _) (by rw [Pm,Pr,Array.length_toList,hp.size,Tx]; omega));rw [hf];simp only [bne_self_eq_false,P9,if_false];exact To (h p hp hu)
theorem tW {src:SY} {vs:List SY} {Q:SY->Tc->Prop} {κ:Uz} {r:Nat->Nat} (h64:vs.length < 64)
  (hcol:∀ (Q':List SY->Tc->Prop),(∀ h' tk,(∀ b o,s.heap.get? b=some o->h'.get? b=some o)->Q' vs { s with heap:=h',toks:=tk })->Te (model prog w) A.in1 (collect src) Q' E s)
  (hk:2<=vs.length->∀ (h':S5) (tk:Nat),(∀ b o,s.heap.get? b=some o->h'.get? b=some o)->∀ (Q:Uz->Tc->Prop),Q κ { s with heap:=h',toks:=tk }->Te (model prog w) A.in1.in1 (keyKind' vs.toArray) Q E { s with heap:=h',toks:=tk })
  (hr:2<=vs.length->∀ (h':S5) (tk:Nat),(∀ b o,s.heap.get? b=some o->h'.get? b=some o)->mL (UA prog w A.in1.in1 κ vs) r vs.length { s with heap:=h',toks:=tk })
  (h:∀ (p:Array Nat) (h1 h':S5) (l:S3) (e tk:Nat),PM vs.length p->Up r p vs.length->(∀ b o,s.heap.get? b=some o->h1.get? b=some o)->(∀ b o,h1.get? b=some o->h'.get? b=some o)->h1.objs.size<=l->h'.get? l=some (seqObj "list" (List.toArray (p.toList.map fun i=>vs.getD i Value.none)) e)->Q (.ref l) { s with heap:=h',toks:=tk }) :
  Te (model prog w) A (call (.builtin "sorted") [src]) Q E s:=by
 refine Calls.call_function_entry kind_sorted plain_sorted entry_sorted (args_sorted1 _) ?_;unfold Builtin.«sorted»;refine Tp (m:=checkCount "sorted" 1 1 _) (To ?_);refine Tp (hcol _ fun h1 tk k1=>?_);refine Tp (UE ?_ (by rw [Tx]; omega));have hoL:(h1.push (seqObj "list" vs.toArray 0)).get? h1.objs.size=some (seqObj "list" vs.toArray 0):=Sq _ rfl;have k2:∀ b o,s.heap.get? b=some o->(h1.push (seqObj "list" vs.toArray 0)).get? b=some o:=fun b o e=>Sn _ (k1 b o e);have ne:∀ b o,s.heap.get? b=some o->b≠h1.objs.size:=fun b o e=>O1 (Si (k1 b o e));refine Tp (T5 (T7 slot_list_sort ⟨_,hoL,rfl⟩ entry_list_sort (uK (s:={ s with heap:=h1.push (seqObj "list" vs.toArray 0),toks:=tk }) (r:=r) (κ:=κ) hoL h64
  (fun h2 h' k=>hk h2 h' tk fun b o e=>k b o (ne b o e) (k2 b o e)) (fun h2 h' k=>hr h2 h' tk fun b o e=>k b o (ne b o e) (k2 b o e)) fun p hp hu=>⟨_,rfl,?_⟩) (args_list_sort _)))
 refine To ⟨_,rfl,?_⟩;obtain⟨e,he⟩:=sortedHeap_at (vs:=vs) (out:=List.toArray (p.toList.map fun i=>vs.getD i Value.none)) hoL;exact h p h1 _ h1.objs.size e tk hp hu k1 (fun b o q=>by rw [sortedHeap_old (O1 (Si q)) (by rw [size_push']; exact Qa (Si q))]; exact Sn _ q) (Ph _) he
end
def eD:D->List D
 | .tup ks=>ks
 | _=>[]
def oneOf (d:D):List D:=[d]
def Iz (xs:List D):Prop:=xs.length < 64/\∃ σ:List Bool,σ≠[]/\(∀ x∈xs,∃ k,x=.tup k/\Sh σ k)/\xs.Pairwise fun x y=>eD x≠eD y
def KW (xs:List D):Prop:=xs.length < 64/\∃ b:Bool,(∀ x∈xs,Sh [b] [x])/\xs.Pairwise fun x y=>oneOf x≠oneOf y
open Classical in
noncomputable def qW (xs:List D):Option D:=if Iz xs then some (.lst (iX eD xs)) else if KW xs then some (.lst (iX oneOf xs)) else none
noncomputable def fT:List D->Option D
 | [.lst xs]=>qW xs
 | [.tup xs]=>qW xs
 | _=>none
theorem jM {prog:S0} {w:SZ} {A:Tb} {s:Tc} {Q:Bool->Tc->Prop} {fin:Bool} (hf:fin=false):∀ {σ:List Bool} {ns ms:List D} {xs ys:List SY} {i:Nat},Sh σ ns->Sh σ ms->gP xs ns->gP ys ms->Q (kLt ns ms) s->KatLex prog w A true fin Q (xs.zip ys) i s
 | _,_,_,_,_,i,.nil,.nil,.nil,.nil,h=>by
  subst hf;exact kat_nil (by simpa [kLt,eS] using h)
 | _,_,_,_,_,i,.int a h1,.int c h2,.int _ t f1,.int _ u f2,h=>by
  rw [QH];obtain⟨e,he,hiff⟩:=HU A s a t c u;refine kat_cons (he prog w _ _ ?_);cases e with
  | true =>
   have ac:=hiff.mp rfl;refine kat_yes (jM hf h1 h2 f1 f2 ?_);unfold kLt at h ⊢;rw [pJ,if_pos ac] at h;exact h
  | false =>
   have ac:¬ a=c:=fun q=>absurd (hiff.mpr q) Pn;have h':Q (decide (a < c)) s:=by
    unfold kLt at h;rw [pJ,if_neg ac] at h;cases hd:decide (a < c) <;> rw [hd] at h <;> exact h
   refine kat_no ?_;cases hi:(i==0) with
   | true=>exact oneLt_int h'
   | false=>exact kat_one _ _ (PySem.P.lt_int (show R8 Q (.bool _) s from h'))
 | _,_,_,_,_,i,.str a h1,.str c h2,.str _ t f1,.str _ u f2,h=>by
  rw [QH];obtain⟨e,he,hiff⟩:=HR A s a t c u;refine kat_cons (he prog w _ _ ?_);cases e with
  | true =>
   have ac:=hiff.mp rfl;refine kat_yes (jM hf h1 h2 f1 f2 ?_);unfold kLt at h ⊢;rw [pc,if_pos ac] at h;exact h
  | false =>
   have ac:¬ a=c:=fun q=>absurd (hiff.mpr q) Pn;have h':Q (decide (a.cps.toList < c.cps.toList)) s:=by
    unfold kLt at h;rw [pc,if_neg ac] at h;cases hd:decide (a.cps.toList < c.cps.toList) <;> rw [hd] at h <;> exact h
   refine kat_no ?_;cases hi:(i==0) with
   | true=>exact oneLt_str h'
   | false=>exact kat_one _ _ (PySem.P.lt_str (show R8 Q (.bool _) s from h'))
theorem oI {h:S5} {PT:SY->Prop}:∀ {its:List SY},(∀ v∈its,∃ a o xs n f,v=.ref a/\h.get? a=some o/\o.cls=.type "tuple"/\o.data=.seq xs n/\xs[0]?=some f/\PT f)->∃ fs,KatTups h its fs/\fs.length=its.length/\∀ f∈fs,PT f
 | [],_=>⟨[],.nil,rfl,fun _ h=>nomatch h⟩
 | v::its,hh=>by
  obtain⟨a,o,xs,n,f,rfl,h1,h2,h3,h4,h5⟩:=hh v O6;obtain⟨fs,k1,k2,k3⟩:=oI (its:=its) fun u hu=>hh u (O7 _ hu);refine⟨f::fs,.cons h1 h2 h3 h4 k1,by rw [Pp,Pp,k2],fun g hg=>?_⟩;rcases List.mem_cons.mp hg with rfl | z
  ·exact h5
  ·exact k3 g z
theorem gP.first {σ:List Bool} {b:Bool} {xs:List SY} {ns:List D} (f:gP xs ns) (h:Sh (b::σ) ns):∃ v,xs[0]?=some v/\typeOf v=pure (.type (if b then "int" else "str")):=by
 cases f with
 | nil=>cases h
 | int i t f=>cases h; exact⟨_,rfl,rfl⟩
 | str i t f=>cases h; exact⟨_,rfl,rfl⟩
theorem rp {key:D->List D} {σ:List Bool} {ds:List D} (h:∀ x∈ds,Sh σ (key x)) (pw:ds.Pairwise fun x y=>key x≠key y) {p:Array Nat} (hp:PM ds.length p) (hu:Up (rank (ds.map key)) p ds.length):p.toList.map (fun i=>ds.getD i .non)=iX key ds:=by
 have hr:p.toList.Perm (List.range ds.length):=by
  have:=Array.perm_iff_toList_perm.mp hp
  simpa using this
 have hmap:(List.range ds.length).map (fun i=>ds.getD i .non)=ds:=by
  apply List.ext_getElem
  ·simp
  ·intro i h1 h2;simp at h1;simp [h1]
 have hperm:(p.toList.map fun i=>ds.getD i .non).Perm ds:=by
  have:=hr.map (fun i=>ds.getD i .non)
  rwa [hmap] at this
 have hn:p.toList.Nodup:=hr.nodup_iff.mpr List.nodup_range;refine(mY h pw ?_ hperm).symm;have hl:p.toList.length=ds.length:=by rw [hr.length_eq,Qr]
 have kd:∀ i,i < ds.length->(ds.map key).getD i []=key (ds.getD i .non):=fun i hi=>by simp [hi]
 have hsh:∀ k∈ds.map key,Sh σ k:=fun k hk=>by
  obtain⟨x,hx,rfl⟩:=List.mem_map.mp hk;exact h x hx
 unfold yU;rw [QY,List.pairwise_iff_getElem];intro i j hi hj hij;have hi':p.toList[i] < ds.length:=by simpa using hr.mem_iff.mp (QX hi)
 have hj':p.toList[j] < ds.length:=by simpa using hr.mem_iff.mp (QX hj)
 have ne:p.toList[i]≠p.toList[j]:=List.pairwise_iff_getElem.mp hn i j hi hj hij;have up:=hu i j ‹0› ‹0›;have gi:p.getD i 0=p.toList[i]:=by
  have:i < p.size:=by rw [<- Array.length_toList]; exact hi
  simp [Array.getD,this]
 have gj:p.getD j 0=p.toList[j]:=by
  have:j < p.size:=by rw [<- Array.length_toList]; exact hj
  simp [Array.getD,this]
 unfold Rk at up;rw [gi,gj] at up;have rl:=rZ hsh (i:=p.toList[j]) (j:=p.toList[i]) (by rw [Pr]; exact hj') (by rw [Pr]; exact hi');rw [kd _ hj',kd _ hi',decide_eq_false ‹0›] at rl;have ei:ds.getD p.toList[i] .non=ds[p.toList[i]]:=by rw [QZ,Qj hi']; rfl
 have ej:ds.getD p.toList[j] .non=ds[p.toList[j]]:=by rw [QZ,Qj hj']; rfl
 have s1:=h _ (show ds.getD p.toList[i] .non∈ds by rw [ei]; exact QX hi');have s2:=h _ (show ds.getD p.toList[j] .non∈ds by rw [ej]; exact QX hj');rcases nN s1 s2 with ⟨z,_⟩ | z | ⟨z,_⟩
 ·exact z
 ·exfalso;have pw':=List.pairwise_iff_getElem.mp pw;rw [ei,ej] at z;rcases Nat.lt_or_gt_of_ne ne with q | q
  ·exact pw' _ _ hi' hj' q z
  ·exact pw' _ _ hj' hi' q z.symm
 ·rw [GK.mpr z] at rl; cases rl
theorem qp {vs:List V} {us:List SY} (r:Vals vs us):∀ l:List Nat,(∀ i∈l,i < vs.length)->Vals (l.map fun i=>vs.getD i .non) (l.map fun i=>us.getD i Value.none)
 | [],_=>.nil
 | i::l,h=>by
  have hi:=h i O6;obtain⟨u,e,q⟩:=r.get (i:=i) (x:=vs[i]) (by simp [hi]);refine .cons ?_ (qp r l fun j hj=>h j (O7 _ hj));have e1:vs.getD i .non=vs[i]:=by simp [hi]
  have e2:us.getD i Value.none=u:=by simp [QZ,e]
  show L2.RelV (vs.getD i .non) (us.getD i Value.none);rw [e1,e2]; exact q
theorem ql {K:RL} {H:Hp} {ds:List D} {vs:List V} (g:aZ K H ds vs):∀ l:List Nat,(∀ i∈l,i < ds.length)->aZ K H (l.map fun i=>ds.getD i .non) (l.map fun i=>vs.getD i .non)
 | [],_=>cZ.mpr rfl
 | i::l,h=>by
  have hi:=h i O6;obtain⟨v,e,q⟩:=g.get (i:=i) (d:=ds[i]) (by simp [hi]);refine bB.mpr ⟨_,_,rfl,?_,ql g l fun j hj=>h j (O7 _ hj)⟩;have e1:ds.getD i .non=ds[i]:=by simp [hi]
  have e2:vs.getD i .non=v:=by simp [QZ,e]
  show cY K H (ds.getD i .non) (vs.getD i .non);rw [e1,e2]; exact q
section
variable {X:Cx} {pins:List (S3×Obj)} {s:Tc} {σ:L2.St} {H:Hp} {O:List S3}
theorem wj {u:SY} {ds:List D} {vs:List V} {its:List SY} {d:D} {Q:VK} (I:Inv X pins σ H s) (hO:eL H O) (dn:aZ X.K (hid H O) ds vs) (rv:Vals vs its) (hs:qW ds=some d)
  (hcol:∀ (Q':List SY->Tc->Prop),(∀ h' tk,(∀ b o,s.heap.get? b=some o->h'.get? b=some o)->Q' its { s with heap:=h',toks:=tk })->Te (model X.prog X.w) X.A.in1 (collect u) Q' X.xe s)
  (q:∀ v H',bn H H'->cY X.K (hid H' O) d v->Q v H'):Te (model X.prog X.w) X.A (call (.builtin "sorted") [u]) (EP X pins σ Q) X.xe s:=by
 have l1:=dn.length;have l2:=rv.length;have fin:∀ (key:D->List D) (σ':List Bool),(∀ x∈ds,Sh σ' (key x))->ds.Pairwise (fun x y=>key x≠key y)->ds.length < 64->d=.lst (iX key ds)->∀ (p:Array Nat) (h1 h':S5) (l:S3) (e tk:Nat),PM its.length p->Up (rank (ds.map key)) p its.length->(∀ b o,s.heap.get? b=some o->h1.get? b=some o)->(∀ b o,h1.get? b=some o->h'.get? b=some o)->h1.objs.size<=l ->
   h'.get? l=some (seqObj "list" (List.toArray (p.toList.map fun i=>its.getD i Value.none)) e)->EP X pins σ Q (.ref l) { s with heap:=h',toks:=tk }:=by
  intro key σ' hsh pw h64 ed p h1 h' l e tk hp hu k1 k2 hl he;have el:its.length=ds.length:=by omega
  rw [el] at hp hu;have ps:=rp hsh pw hp hu;have hr:p.toList.Perm (List.range ds.length):=by
   have:=Array.perm_iff_toList_perm.mp hp
   simpa using this
  have hlt:∀ i∈p.toList,i < ds.length:=fun i hi=>by simpa using hr.mem_iff.mp hi
  have I1:Inv X pins σ H { s with heap:=h1,toks:=tk }:=I.kept k1;have hn:H l=none:=I1.hok.fresh hl;have rv':=qp rv p.toList fun i hi=>by have:=hlt i hi; omega
  have dn':=ql dn p.toList hlt;have hlen:p.toList.length=ds.length:=by rw [hr.length_eq,Qr]
  refine⟨.ref l,_,Inv.laid (s:={ s with heap:=h1,toks:=tk }) (t':=tk) I1 k2 hl (show cK X.prog X.w _ h' _ (.lst (p.toList.map fun i=>vs.getD i .non)) from ⟨by rw [Pr,hlen,Tx]; omega,_,e,rv',he⟩),rfl,?_⟩;refine q _ _ (bF hn _) ?_;rw [ed,<- ps];exact dU hO hn dn'
 unfold qW at hs;split at hs
 ·rename_i h;cases hs;obtain⟨h64,σ',hσ,hsh,pw⟩:=h;obtain⟨b,σ1,rfl⟩:∃ b σ1,σ'=b::σ1:=by
   cases σ' with
   | nil=>exact absurd rfl hσ
   | cons b σ1=>exact⟨b,σ1,rfl⟩
  have hsh':∀ x∈ds,Sh (b::σ1) (eD x):=fun x hx=>by
   obtain⟨k,rfl,hk⟩:=hsh x hx;exact hk
  have at':∀ i (hi:i < ds.length),∃ a o xs n,its[i]?=some (.ref a)/\s.heap.get? a=some o/\o.cls=.type "tuple"/\o.data=.seq xs n/\gP xs.toList (eD ds[i]):=fun i hi=>by
   obtain⟨v,e1,dv⟩:=dn.get (i:=i) (d:=ds[i]) (by simp [hi]);obtain⟨w,e2,rw'⟩:=rv.get e1;obtain⟨k,ek,hk⟩:=hsh _ (QX hi);rw [ek] at dv ⊢;obtain⟨a,ws,rfl,ha,dk⟩:=cJ.mp dv;cases rw';obtain⟨it2,r2,⟨o,ho,hc,n,hd⟩,_⟩:=I.tuple (bY (aB H O) ha);exact⟨a,o,_,n,e2,ho,hc,hd,by simpa [eD] using kL (rT hk) dk r2⟩
  refine tW (κ:=tuples' true) (r:=rank (ds.map eD)) ‹0› hcol (fun h2 h' tk kp Q' hQ=>?_) (fun h2 h' tk kp i j C hi hj hC=>?_) (fin eD _ hsh' pw h64 rfl)
  ·obtain⟨fs,t1,t2,t3⟩:=oI (h:=h') (PT:=fun f=>typeOf f=pure (.type (if b then "int" else "str"))) (its:=its) fun v hv=>by
    obtain⟨i,hi,rfl⟩:=Qn hv;obtain⟨a,o,xs,n,e1,ho,hc,hd,ff⟩:=at' i ‹0›;obtain⟨f,ef,tf⟩:=ff.first (hsh' _ (QX _));refine⟨a,o,xs,n,f,?_,kp _ _ ho,hc,hd,by simpa using ef,tf⟩
    have:=Qj hi
    rw [e1] at this;exact(Option.some.inj this).symm
   refine kat_kind (T:=.type (if b then "int" else "str")) t1 ‹0› (fun f hf=>Looks.of_pure (t3 f hf)) (by cases b <;> rfl) ?_
   have:(Value.type (if b then "int" else "str") != Value.type "tuple")=true:=(by cases b <;> rfl);rw [this]; exact hQ
  ·obtain⟨a,o,xs,n,e1,ho,hc,hd,ff⟩:=at' i ‹0›;obtain⟨a2,o2,xs2,n2,e2,ho2,hc2,hd2,ff2⟩:=at' j ‹0›;unfold UA;have g1:its.getD i Value.none=.ref a:=(by simp [QZ,e1]);have g2:its.getD j Value.none=.ref a2:=(by simp [QZ,e2]);rw [g1,g2];have hi':i < ds.length:=(by omega);have hj':j < ds.length:=(by omega);have sh1:=hsh' _ (QX hi');have sh2:=hsh' _ (QX hj');have rl:=rZ (ks:=ds.map eD) (σ:=b::σ1) (fun k hk=>by obtain⟨x,hx,rfl⟩:=List.mem_map.mp hk; exact hsh' x hx) (i:=i) (j:=j) (by rw [Pr]; exact hi') (by rw [Pr]; exact hj');have k1:(ds.map eD).getD i []=eD ds[i]:=(by simp [hi']);have k2:(ds.map eD).getD j []=eD ds[j]:=(by simp [hj']);rw [k1,k2] at rl;rw [rl] at hC;refine kat_lt (kp _ _ ho) hd (kp _ _ ho2) hd2 (jM ?_ sh1 sh2 ff ff2 hC);have z1:xs.size=(eD ds[i]).length:=(by have:=ff.length; simpa using this);have z2:xs2.size=(eD ds[j]).length:=(by have:=ff2.length; simpa using this);have z3:(eD ds[i]).length=(eD ds[j]).length:=(by rw [Sh.length sh1,Sh.length sh2]);exact decide_eq_false ‹0›
 ·split at hs
  ·rename_i _ h;cases hs;obtain⟨h64,b,hsh,pw⟩:=h;have at':∀ i (hi:i < ds.length),(∃ (n:Int) (t:Tok),b=true/\its[i]?=some (.int n t)/\ds[i]=.int n)\/∃ (x:Str) (t:Tok),b=false/\its[i]?=some (.str x t)/\ds[i]=.str x:=fun i hi=>by
    obtain⟨v,e1,dv⟩:=dn.get (i:=i) (d:=ds[i]) (by simp [hi]);obtain⟨w,e2,rw'⟩:=rv.get e1;have hk:=hsh _ (QX hi);generalize ds[i]=di at dv hk;cases hk with
    | int n _ =>
     rw [fW] at dv; subst dv;obtain⟨t,rfl⟩:=rw';exact .inl ⟨n,t,rfl,e2,rfl⟩
    | str x _ =>
     rw [fU] at dv; subst dv;obtain⟨t,rfl⟩:=rw';exact .inr ⟨x,t,rfl,e2,rfl⟩
   refine tW (κ:=oneType') (r:=rank (ds.map oneOf)) ‹0› hcol (fun h2 h' tk kp Q' hQ=>?_) (fun h2 h' tk kp i j C hi hj hC=>?_) (fin oneOf [b] hsh pw h64 rfl)
   ·refine kas_kind (T:=.type (if b then "int" else "str")) h2 (fun v hv=>?_) (by cases b <;> rfl) (by cases b <;> rfl) hQ;obtain⟨i,hi,rfl⟩:=Qn hv;have hg:=Qj hi;rcases at' i ‹0› with ⟨n,t,rfl,e,_⟩ | ⟨x,t,rfl,e,_⟩
    ·rw [hg] at e; rw [Option.some.inj e]; exact Looks.of_pure rfl
    ·rw [hg] at e; rw [Option.some.inj e]; exact Looks.of_pure rfl
   ·have hi':i < ds.length:=(by omega);have hj':j < ds.length:=(by omega);unfold UA;have rl:=rZ (ks:=ds.map oneOf) (σ:=[b]) (fun k hk=>by obtain⟨x,hx,rfl⟩:=List.mem_map.mp hk; exact hsh x hx) (i:=i) (j:=j) (by rw [Pr]; exact hi') (by rw [Pr]; exact hj');have k1:(ds.map oneOf).getD i []=[ds[i]]:=(by simp [hi',oneOf]);have k2:(ds.map oneOf).getD j []=[ds[j]]:=(by simp [hj',oneOf]);rw [k1,k2] at rl;rw [rl] at hC;rcases at' i hi' with ⟨n,t,hb,e1,q1⟩ | ⟨x,t,hb,e1,q1⟩
    ·rcases at' j hj' with ⟨n2,t2,hb2,e2,q2⟩ | ⟨x2,t2,hb2,e2,q2⟩
     ·have g1:its.getD i Value.none=.int n t:=(by simp [QZ,e1]);have g2:its.getD j Value.none=.int n2 t2:=(by simp [QZ,e2]);rw [g1,g2,keyLt'_oneType];refine oneLt_int ?_;rw [q1,q2] at hC;unfold kLt at hC;rw [pJ] at hC;by_cases z:n=n2
      ·rw [if_pos z] at hC;rw [decide_eq_false ‹0›];exact hC
      ·rw [if_neg z] at hC;cases hd:decide (n < n2) <;> rw [hd] at hC <;> exact hC
     ·rw [hb] at hb2; cases hb2
    ·rcases at' j hj' with ⟨n2,t2,hb2,e2,q2⟩ | ⟨x2,t2,hb2,e2,q2⟩
     ·rw [hb] at hb2; cases hb2
     ·have g1:its.getD i Value.none=.str x t:=(by simp [QZ,e1]);have g2:its.getD j Value.none=.str x2 t2:=(by simp [QZ,e2]);rw [g1,g2,keyLt'_oneType];refine oneLt_str ?_;rw [q1,q2] at hC;unfold kLt at hC;rw [pc] at hC;by_cases z:x=x2
      ·rw [if_pos z] at hC;rw [decide_eq_false (by rw [z]; exact sI _)];exact hC
      ·rw [if_neg z] at hC;cases hd:decide (x.cps.toList < x2.cps.toList) <;> rw [hd] at hC <;> exact hC
  ·cases hs
theorem lA:eA X (.builtin "sorted") (xP X.K fT):=by
 intro pins s σ H xs us Q I r ⟨O,ds,d,hO,hd,hg,q⟩;unfold fT at hg;split at hg
 ·obtain⟨v,rfl,h1⟩:=hd.one;obtain⟨p,ws,rfl,g1,g2⟩:=cI.mp h1;obtain⟨u,rfl,ru⟩:=vals1 r;cases ru;obtain⟨its,rv,pl,hz⟩:=I.list ((aB H O).seq g1);have hlen:=rv.length;obtain⟨o,ho,hc,n,hd'⟩:=pl.isList;exact wj I hO g2 rv hg (fun Q' hQ=>UG p (.inl rfl) ho hc hd' (fun h' k=>by simpa using hQ h' s.toks k) (by simp only [Pm] <;> omega)) q
 ·obtain⟨v,rfl,h1⟩:=hd.one;obtain⟨p,ws,rfl,g1,g2⟩:=cJ.mp h1;obtain⟨u,rfl,ru⟩:=vals1 r;cases ru;obtain⟨its,rv,⟨o,ho,hc,n,hd'⟩,hz⟩:=I.tuple (bY (aB H O) g1);have hlen:=rv.length;exact wj I hO g2 rv hg (fun Q' hQ=>UG p (.inr rfl) ho hc hd' (fun h' k=>by simpa using hQ h' s.toks k) (by simp only [Pm] <;> omega)) q
 ·cases hg
end
end TG
namespace TG
open PySem PySem.Spec L2
variable [aX]
section
variable {X:Cx} {tg:Tf}
end
end TG
namespace TG
open PySem PySem.Spec L2
variable [aX]

end TG
namespace TG
open PySem PySem.Spec L2
variable [aX]
end TG
namespace TG
open PySem PySem.Spec L2
variable [aX]
def keyOf:D->Option Key
 | .int i=>some (.inl i)
 | .str x=>some (.inr x)
 | _=>none
def keysOf:List D->Option (List Key)
 | []=>some []
 | d::r=>(keyOf d).bind fun k=>(keysOf r).map (k::·)
def jH:D->Option (List Key)
 | .tup ds=>keysOf ds
 | _=>none
theorem sZ {d:D} {k:Key} (h:keyOf d=some k):d=bz k:=by
 cases d with
 | int i=>cases h; rfl
 | str x=>cases h; rfl
 | _=>cases h
theorem nz:∀ {ds:List D} {ks:List Key},keysOf ds=some ks->ds=ks.map bz
 | [],_,h=>by cases h; rfl
 | d::r,ks,h=>by
  unfold keysOf at h;cases e1:keyOf d with
  | none=>rw [e1] at h; cases h
  | some k =>
   rw [e1] at h;cases e2:keysOf r with
   | none=>rw [e2] at h; cases h
   | some ks'=>rw [e2] at h; cases h; rw [sZ e1,nz e2]; rfl
theorem oj {d:D} {k:List Key} (h:jH d=some k):d=.tup (k.map bz):=by
 cases d with
 | tup ds=>rw [nz (show keysOf ds=some k from h)]
 | _=>cases h
theorem cR:∀ ks:List Key,keysOf (ks.map bz)=some ks
 | []=>rfl
 | k::r=>by
  show (keyOf (bz k)).bind _=_;have e:keyOf (bz k)=some k:=by cases k <;> rfl
  rw [e];show (keysOf (r.map bz)).map (k::·)=_;rw [cR r]; rfl
theorem sY {K:RL} {H:Hp} {k:Key} {v:V} (h:cY K H (bz k) v):v=kV k:=by
 cases k with
 | inl i=>exact fW.mp h
 | inr x=>exact fU.mp h
theorem jp {K:RL} {H:Hp}:∀ {ks:List Key} {vs:List V},aZ K H (ks.map bz) vs->vs=ks.map kV
 | [],vs,h=>by rw [PX,cZ] at h; exact h
 | k::r,vs,h=>by
  rw [Pq,bB] at h;obtain⟨v,r',e1,h1,h2⟩:=h;rw [e1,sY h1,jp h2]; rfl
section
variable {P:S0} {w:SZ} {H H':Hp} {h:S5} {a:S3}
theorem Fo (x:cK P w H h a (.dK [])):cK P w H' h a (.dT []):=by
 obtain⟨z,hd,vs,rel,o,es,ep,h1,h2,h3,h4,h5,h6⟩:=x;have e:vs=[]:=by have:=rel.length; simpa using this.symm
 subst e;refine⟨Pu _,hd,[],.nil,o,es,ep,h1,h2,h3,?_,by simp⟩
 have:=h5.length
 simpa using this
theorem yA (x:cK P w H h a (.dT [])):cK P w H' h a (.dK []):=by
 obtain⟨z,hd,xs,rel,o,es,ep,h1,h2,h3,h4,h5⟩:=x;have e:xs=[]:=by have:=rel.length; simpa using this.symm
 subst e;have e2:es=#[]:=by simpa using h4
 subst e2;exact⟨Pu _,hd,[],.nil,o,#[],ep,h1,h2,h3,fun e he=>by simp at he,.nil,by simp⟩
end
section
variable {X:Cx} {pins:List (S3×Obj)} {σ:St} {H:Hp} {s:Tc} {a:S3}
theorem Ds (I:Inv X pins σ H s) (h1:H a=some (.dK [])):Inv X pins σ (upd H a (.dT [])) s:=by
 have hx:=I.hok a _ h1;have hq:∃ q,s.heap.get? a=some q:=by obtain⟨_,_,_,_,o,_,_,e,_⟩:=id hx; exact⟨o,e⟩
 exact nq (ob:=.dT []) (h':=s.heap) (t':=s.toks) I (by rw [h1]; exact trivial) ⟨rfl,fun _ _=>rfl⟩ hq (Fo hx)
theorem KR (I:Inv X pins σ H s) (h1:H a=some (.dT [])):Inv X pins σ (upd H a (.dK [])) s:=by
 have hx:=I.hok a _ h1;have hq:∃ q,s.heap.get? a=some q:=by obtain⟨_,_,_,_,o,_,_,e,_⟩:=id hx; exact⟨o,e⟩
 exact nq (ob:=.dK []) (h':=s.heap) (t':=s.toks) I (by rw [h1]; exact trivial) ⟨rfl,fun _ _=>rfl⟩ hq (yA hx)
end
theorem Fl {H:Hp} {a:S3} {o1 o2:HO} (h:H a=some o1):upd (upd H a o2) a o1=H:=by
 funext b;by_cases e:b=a
 ·subst e; rw [aQ,h]
 ·rw [aE e,aE e]
def j9:List D->List D->Option (List (List Key×D))
 | [],[]=>some []
 | k::ks,d::ds=>(jH k).bind fun k=>(j9 ks ds).map ((k,d)::·)
 | _,_=>none
abbrev encK (al:List (List Key×D)):List D:=al.map fun p=>.tup (p.1.map bz)
abbrev dh (al:List (List Key×D)):D:=.dct (encK al) (al.map (·.2))
theorem i7:∀ {ks ds:List D} {al:List (List Key×D)},j9 ks ds=some al->ks=encK al/\ds=al.map (·.2)
 | [],[],_,h=>by cases h; exact⟨rfl,rfl⟩
 | k::ks,d::ds,al,h=>by
  unfold j9 at h;cases e1:jH k with
  | none=>rw [e1] at h; cases h
  | some k' =>
   rw [e1] at h;cases e2:j9 ks ds with
   | none=>rw [e2] at h; cases h
   | some al' =>
    rw [e2] at h; cases h;obtain⟨h1,h2⟩:=i7 e2;rw [oj e1,h1,h2]; exact⟨rfl,rfl⟩
 | [],_::_,_,h=>by cases h
 | _::_,[],_,h=>by cases h
theorem kX:∀ al:List (List Key×D),j9 (encK al) (al.map (·.2))=some al
 | []=>rfl
 | p::r=>by
  show (jH (.tup (p.1.map bz))).bind _=_;have e:jH (.tup (p.1.map bz))=some p.1:=cR p.1;rw [e];show (j9 (encK r) (r.map (·.2))).map ((p.1,p.2)::·)=_;rw [kX r]; rfl
theorem mN:∀ {al:List (List Key×D)} {ks:List (List Key)},encK al=ks.map (fun k=>.tup (k.map bz))->al.map (·.1)=ks
 | [],[],_=>rfl
 | p::r,k::ks,h=>by
  have h:D.tup (p.1.map bz)::encK r=D.tup (k.map bz)::ks.map (fun k=>.tup (k.map bz)):=h;injection h with h1 h2;injection h1 with h1;have e:some p.1=some k:=by rw [<- cR p.1,h1,cR k]
  rw [Pq,Option.some.inj e,mN h2]
 | [],_::_,h=>by cases h
 | _::_,[],h=>by cases h
theorem MO {K:RL} {H:Hp} {O:List S3} {a:S3} {al:List (List Key×D)} (h:dW K H O a (dh al)) :
  (∃ kvs:List (List Key×V),H a=some (.dT kvs)/\kvs.map (·.1)=al.map (·.1)/\aZ K (hid H O) (al.map (·.2)) (kvs.map (·.2)))\/(H a=some (.dK [])/\al=[]):=by
 obtain⟨o,vs,h1,h2,h3⟩:=h;rcases h3 with ⟨kvs,e,e1,e2⟩ | ⟨kvs,e,e1,e2⟩
 ·subst e;cases kvs with
  | nil =>
   refine .inr ⟨h1,?_⟩
   simpa using e1
  | cons p r =>
   cases al with
   | nil=>cases e1
   | cons q r' =>
    have e1:D.tup (q.1.map bz)::encK r'=bz p.1::r.map (fun p=>bz p.1):=e1;injection e1 with e1 _;rcases p with ⟨k,v⟩
    cases k <;> cases e1
 ·subst e;refine .inl ⟨kvs,h1,?_,by rw [<- e2]; exact h2⟩;exact(mN (ks:=kvs.map (·.1)) (by rw [Q0]; exact e1)).symm
theorem EG {kvs:List (List Key×V)} {ks:List (List Key)} (e:kvs.map (·.1)=ks) (k:List Key):(jB kvs k).isSome=ks.any fun q=>decide (q=k):=by
 subst e
 induction kvs with
 | nil=>rfl
 | cons p r ih =>
  rw [Pq,PZ,<- ih];by_cases e:p.1=k
  ·rw [kW e]; simp [e]
  ·rw [jx e]; simp [e]
def vI (ks ds:List D) (k:D):Option D:=(j9 ks ds).bind fun al=>(jH k).bind fun k=>some (.bl (al.any fun p=>decide (p.1=k)))
def OQ (i:Nat) (f:FX):FX:=fun ρ=>(f ρ).bind fun k=>match ρ[i]? with
 | some (some (.own (.dct ks ds)))=>rO (vI ks ds k)
 | _=>un
theorem zu {ks ds:List D} {k d:D} (h:vI ks ds k=some d):∃ al q,ks=encK al/\ds=al.map (·.2)/\k=.tup (q.map bz)/\d=.bl (al.any fun p=>decide (p.1=q)):=by
 unfold vI at h;cases e1:j9 ks ds with
 | none=>rw [e1] at h; cases h
 | some al =>
  rw [e1] at h;cases e2:jH k with
  | none=>rw [e2] at h; cases h
  | some q =>
   rw [e2] at h; cases h;obtain⟨h1,h2⟩:=i7 e1;exact⟨al,q,h1,h2,oj e2,rfl⟩
def ib (al:List (List Key×D)) (k:List Key) (v:D):List (List Key×D):=if (al.any fun p=>decide (p.1=k))=true then al.map (fun p=>if p.1=k then (p.1,v) else p) else al++[(k,v)]
def vQ (ks ds:List D) (k v:D):Option (List (List Key×D)):=(j9 ks ds).bind fun al=>(jH k).bind fun k=>if small al.length then some (ib al k v) else none
def tq (i:Nat) (fk fv:FX):cw:=fun k ρ=>match ρ[i]? with
 | some (some (.own (.dct ks ds)))=>uA ((fv ρ).bind fun v=>(fk ρ).bind fun q=>rO (vQ ks ds q v)) k ρ fun al=>k.nx (ρ.set i (some (.own (dh al))))
 | _=>un
theorem AD {ks ds:List D} {k v:D} {al':List (List Key×D)} (h:vQ ks ds k v=some al'):∃ al q,ks=encK al/\ds=al.map (·.2)/\k=.tup (q.map bz)/\small al.length=true/\al'=ib al q v:=by
 unfold vQ at h;cases e1:j9 ks ds with
 | none=>rw [e1] at h; cases h
 | some al =>
  rw [e1] at h;cases e2:jH k with
  | none=>rw [e2] at h; cases h
  | some q =>
   rw [e2] at h;obtain⟨h3,h4⟩:=bH (show (if small al.length then some (ib al q v) else none)=some al' from h);obtain⟨h1,h2⟩:=i7 e1;exact⟨al,q,h1,h2,oj e2,h3,h4.symm⟩
theorem x3 {kvs:List (List Key×V)} {al:List (List Key×D)} (e:kvs.map (·.1)=al.map (·.1)) (k:List Key) (w:V) (d:D):(putK kvs k w).map (·.1)=(ib al k d).map (·.1):=by
 have e2:(kvs.any fun p=>decide (p.1=k))=(al.any fun p=>decide (p.1=k)):=by
  have:=congrArg (fun l=>l.any fun q=>decide (q=k)) e
  simpa [QN,Function.comp_def] using this
 unfold putK ib;rw [e2];split
 ·have e3:∀ (l:List (List Key×V)),(l.map fun kv=>if kv.1=k then (kv.1,w) else kv).map (·.1)=l.map (·.1):=fun l=>by
   rw [Q0]; refine Qp fun p _=>?_;show (if p.1=k then (p.1,w) else p).1=p.1;split <;> rfl
  have e4:∀ (l:List (List Key×D)),(l.map fun kv=>if kv.1=k then (kv.1,d) else kv).map (·.1)=l.map (·.1):=fun l=>by
   rw [Q0]; refine Qp fun p _=>?_;show (if p.1=k then (p.1,d) else p).1=p.1;split <;> rfl
  rw [e3,e4,e]
 ·rw [Qq,Qq,e]; rfl
theorem yS {K:RL} {H:Hp} {k:List Key} {w:V} {d:D} (hw:cY K H d w):∀ {kvs:List (List Key×V)} {al:List (List Key×D)},kvs.map (·.1)=al.map (·.1)->aZ K H (al.map (·.2)) (kvs.map (·.2)) ->
  aZ K H ((al.map fun p=>if p.1=k then (p.1,d) else p).map (·.2)) ((kvs.map fun p=>if p.1=k then (p.1,w) else p).map (·.2))
 | [],[],_,h=>h
 | p::r,q::r',e,h=>by
  rw [Pq,Pq] at e;injection e with e1 e2;rw [Pq,Pq,bB] at h;obtain⟨v,ws,h0,h1,h2⟩:=h;injection h0 with h0 h0';subst h0 h0';have ih:=yS (k:=k) hw e2 h2;rw [Pq,Pq,Pq,Pq,bB];refine⟨_,_,rfl,?_,ih⟩;rw [e1];split
  ·exact hw
  ·exact h1
 | [],_::_,e,_=>by cases e
 | _::_,[],e,_=>by cases e
theorem Bj {K:RL} {H:Hp} {k:List Key} {w:V} {d:D} (hw:cY K H d w) {kvs:List (List Key×V)} {al:List (List Key×D)} (e:kvs.map (·.1)=al.map (·.1)) (h:aZ K H (al.map (·.2)) (kvs.map (·.2))) :
  aZ K H ((ib al k d).map (·.2)) ((putK kvs k w).map (·.2)):=by
 have e2:(kvs.any fun p=>decide (p.1=k))=(al.any fun p=>decide (p.1=k)):=by
  have:=congrArg (fun l=>l.any fun q=>decide (q=k)) e
  simpa [QN,Function.comp_def] using this
 unfold putK ib;rw [e2];split
 ·exact yS hw e h
 ·rw [Qq,Qq];exact h.append (bB.mpr ⟨w,[],rfl,hw,cZ.mpr rfl⟩)
theorem ue {kvs:List (List Key×V)} {al:List (List Key×D)} (e:kvs.map (·.1)=al.map (·.1)):encK al=kvs.map fun p=>D.tup (p.1.map bz):=by
 have:=congrArg (List.map fun k:List Key=>D.tup (k.map bz)) e
 rw [Q0,Q0] at this;exact this.symm
theorem sP {H:Hp} {a:S3} {o1 o2:HO}:upd (upd H a o1) a o2=upd H a o2:=by
 funext b;by_cases e:b=a
 ·subst e; rw [aQ,aQ]
 ·rw [aE e,aE e,aE e]
def HX (td ty tv:TE):TS:=fun D σ H=>tv σ H fun v H1=>td σ H1 fun x H2=>ty σ H2 fun y H3=>∃ a k b kvs,x=.ref a/\y=.ref b/\H3 b=some (.tup (k.map kV))/\(H3 a=some (.dT kvs)\/(H3 a=some (.dK [])/\kvs=[]))/\kvs.length < S6/\D.nx σ (upd H3 a (.dT (putK kvs k v)))
section
variable {X:Cx} {o idx value:Tf} {pos pos':Pos} {td ty tv:TE}
theorem Ej (hu:X.A.units+1 < TJ) (ho:PE X o td) (hi:PE X idx ty) (hv:PE X value tv) (hs:swapsWith value (some (.Subscript o idx pos')) pos.line X.env=pure false):PS X (.Assign [.Subscript o idx pos'] value pos) (HX td ty tv):=by
 intro pins s σ H D I h;refine wpAny_Assign_Subscript (eZ (hv pins s σ H _ I h) fun r s1 ⟨v,H1,I1,rv,q1⟩=>eZ (ho pins s1 σ H1 _ I1 q1) fun u s2 ⟨x,H2,I2,rx,q2⟩=>eZ (hi pins s2 σ H2 _ I2 q2) fun iv s3 ⟨y,H3,I3,ry,a,k,b,kvs,ex,ey,hb,ha,hl,q3⟩=>?_) hs;subst ex ey;obtain rfl:u=Value.ref a:=rx;rcases ha with ha | ⟨ha,rfl⟩
 ·exact oq hu I3 (JE.t ha hb hl) ry rv fun s4 I4=>⟨σ,_,I4,q3⟩
 ·have ne:b≠a:=fun z=>by rw [z,ha] at hb; cases hb
  refine oq hu (Ds I3 ha) (JE.t aQ (by rw [aE ne]; exact hb) hl) ry rv fun s4 I4=>⟨σ,_,I4,?_⟩
  rw [sP]; exact q3
end
theorem LO {X:Cx} {i:Nat} {x:Str} {idx value:Tf} {fk fv:FX} {npos tpos pos:Pos} (hu:X.A.units+64 < TJ) (hx:PE X (.Name x npos) (ux i)) (hi:FE X idx fk) (hv:FE X value fv)
  (hs:swapsWith value (some (.Subscript (.Name x npos) idx tpos)) pos.line X.env=pure false:=by rfl) :
  FS X (.Assign [.Subscript (.Name x npos) idx tpos] value pos) (tq i fk fv):=fun Hb Ob pins s σ H E I ⟨O,ρ,k,rr,S,hF,hk⟩=>by
 unfold tq at hF;split at hF
 ·rename_i ks ds hxs;obtain⟨a,ha,haO,hat⟩:=S.env.own i _ hxs;have hP:=jw.on hF hk S (Q:=fun al=>k.nx (ρ.set i (some (.own (dh al))))=rr) fun p e=>e;refine Ej ‹0› hx hi hv hs pins s σ H E I ⟨O,ρ,S.env,(jw.bind hP).imp fun y hP v H1 s1 d1=>?_⟩;have S1:=S.same s1;refine⟨.ref a,ha,O,ρ,S1.env,((jw.bind hP).mono s1).imp fun j hP w H2 s2 d2=>?_⟩;have S2:=S1.same s2;obtain⟨al',hg,e⟩:=jw.rO hP;obtain⟨al,q,f1,f2,f3,f4,f5⟩:=AD hg;subst f1 f2 f3 f5;have s12:=s1.trans s2;obtain⟨b,ws,eb,g1,g2⟩:=cJ.mp d2;rw [jp g2] at g1;have hat2:dW X.K H2 O a (dh al):=hat.mono (let ⟨_,z⟩:=hat.some; rQ s12 z) (cf s12);have dv:cY X.K (hid H2 O) y v:=d1.mono (cf s2);have fin:∀ kvs:List (List Key×V),kvs.map (·.1)=al.map (·.1)->aZ X.K (hid H2 O) (al.map (·.2)) (kvs.map (·.2))->dW X.K (upd H2 a (.dT (putK kvs q v))) O a (dh (ib al q y)):=fun kvs k2 k3 =>
   ⟨_,_,aQ,(Bj dv k2 k3).mono (iw haO),.inr ⟨putK kvs q v,rfl,ue (x3 k2 q v y),rfl⟩⟩
  rcases MO hat2 with ⟨kvs,k1,k2,k3⟩ | ⟨k1,rfl⟩
  ·have hl:kvs.length=al.length:=(by have:=congrArg List.length k2; simpa using this);exact⟨a,q,b,kvs,rfl,eb,(aB H2 O) _ _ g1,.inl k1,by rw [hl]; exact Qw (of_decide_eq_true f4) (by decide),hk.nx O _ σ _ (S2.setO hxs ha trivial (fin kvs k2 k3)) e⟩
  ·exact⟨a,q,b,[],rfl,eb,(aB H2 O) _ _ g1,.inr ⟨k1,rfl⟩,by decide,hk.nx O _ σ _ (S2.setO hxs ha trivial (fin [] rfl (cZ.mpr rfl))) e⟩
 ·exact absurd hF.symm hk.ne
end TG
namespace TG
open PySem PySem.Spec L2
variable [aX]
end TG
namespace TG
open PySem PySem.Spec PySem.W PySem.Calls PyProof.Rows Builtin Builtin.ObjectAttr Builtin.Getset_descriptor
variable [aX]
end TG
namespace TG
open PySem PySem.Spec L2
variable [aX]
open PyProof.Rows (AllBare OwnCls)
end TG
namespace TG
open PySem PySem.Spec L2
variable [aX]
end TG
namespace TG
open PySem PySem.Spec L2
variable [aX]
end TG
namespace TG
open PySem PySem.Spec L2
variable [aX]
end TG
namespace TG
open PySem PySem.Spec L2
def pK (P:S3) (pos:Pos) (q:Str):(S3->Prop)->S5->Prop:=fun S h=>h.get? P=some (R9 #[])\/∃ c,S c/\h.get? P=some (R9 #[rawInt pos.line,rawInt pos.col,.ref c])/\h.CodeRec (.ref c) q
theorem pK.stay {P:S3} {pos:Pos} {q:Str} {S1 S2:S3->Prop} {h1 h2:S5} (x:pK P pos q S1 h1) (s:∀ b,S1 b->S2 b) (k:∀ b o,(b=P\/S1 b)->h1.get? b=some o->h2.get? b=some o):pK P pos q S2 h2:=by
 rcases x with e | ⟨c,hc,e,c',o,vs,t,ec,e1,r⟩
 ·exact .inl (k _ _ (.inl rfl) e)
 ·cases ec;exact .inr ⟨c,s c hc,k _ _ (.inl rfl) e,c,o,vs,t,rfl,k _ _ (.inr hc) e1,r⟩
theorem pK.ok {Pg:S0} {w:SZ} {H:Hp} {h:S5} {P:S3} {pos:Pos} {q:Str} (x:pK P pos q (fun b=>H b=some (.own P)) h):cK Pg w H h P (.ext (pK P pos q)) :=
 ⟨x,by rcases x with e | ⟨_,_,e,_⟩ <;> exact⟨_,e⟩,fun _ _ _ _ x s k=>x.stay s k⟩
abbrev xc (P:S3) (pos:Pos) (q:Str):aX:=⟨fun H=>H P=some (.ext (pK P pos q)),fun h e=>e _ _ h,fun {H p o o'} h hp m=>by
 rw [aE]
 ·exact h
 ·rintro rfl;rw [h] at hp; cases hp; exact m⟩
end TG
namespace TG
open PySem PySem.Spec PyProof.Rows PySem.W L2
variable [aX]
def u6 (key:List D) (h:S5) (k:SY):Prop:=∃ b o xs n,k=.ref b/\h.get? b=some o/\o.cls=.type "tuple"/\o.data=.seq xs n/\gP xs.toList key
theorem u6.keep {key:List D} {h h':S5} {k:SY} (x:u6 key h k) (kp:∀ b o,h.get? b=some o->h'.get? b=some o):u6 key h' k:=by
 obtain⟨b,o,xs,n,e,ho,r⟩:=x;exact⟨b,o,xs,n,e,kp _ _ ho,r⟩
theorem u6.stay {key:List D} {h h':S5} {k:SY} {c:S3} {xs:Array SY} {n:Nat} (x:u6 key h k) (hc:h.get? c=some (seqObj "list" xs n)) (kp:∀ b o,b≠c->h.get? b=some o->h'.get? b=some o):u6 key h' k:=by
 obtain⟨b,o,ys,m,e,ho,hk,r⟩:=x;refine⟨b,o,ys,m,e,kp _ _ (fun z=>?_) ho,hk,r⟩;subst z;rw [hc] at ho;cases ho;revert hk;show ¬ (Value.type "list"=Value.type "tuple");simp
section
variable {prog:S0} {w:SZ} {A:Tb} {E:SY->Tc->Prop} {s:Tc}
theorem B5 {ks:List SY} {keys:List (List D)} {σ:List Bool} {b:Bool} {Q:Uz->Tc->Prop} (hl:ks.length=keys.length) (hsh:∀ k∈keys,Sh (b::σ) k) (h1:1<=ks.length)
  (hk:∀ i,i < ks.length->u6 (keys.getD i []) s.heap (ks.getD i Value.none)) (h:Q (tuples' true) s):Te (model prog w) A (keyKind' ks.toArray) Q E s:=by
 obtain⟨fs,t1,t2,t3⟩:=oI (h:=s.heap) (PT:=fun f=>typeOf f=pure (.type (if b then "int" else "str"))) (its:=ks) fun v hv=>by
  obtain⟨i,hi,rfl⟩:=Qn hv;obtain⟨a,o,xs,n,e1,ho,hc,hd,ff⟩:=hk i hi;have hi':i < keys.length:=by omega
  have gk:keys.getD i []=keys[i]:=by simp [hi']
  rw [gk] at ff;obtain⟨f,ef,tf⟩:=ff.first (hsh _ (QX hi'));have gv:ks.getD i Value.none=ks[i]:=by simp [hi]
  rw [gv] at e1;exact⟨a,o,xs,n,f,e1,ho,hc,hd,by simpa using ef,tf⟩
 refine kat_kind (T:=.type (if b then "int" else "str")) t1 ‹0› (fun f hf=>Looks.of_pure (t3 f hf)) (by cases b <;> rfl) ?_
 have:(Value.type (if b then "int" else "str") != Value.type "tuple")=true:=by cases b <;> rfl
 rw [this]; exact h
theorem Ak {ks:List SY} {keys:List (List D)} {σ:List Bool} {b:Bool} (hl:ks.length=keys.length) (hsh:∀ k∈keys,Sh (b::σ) k)
  (hk:∀ i,i < ks.length->u6 (keys.getD i []) s.heap (ks.getD i Value.none)):mL (UA prog w A (tuples' true) ks) (rank keys) ks.length s:=by
 intro i j C hi hj hC;obtain⟨a,o,xs,n,e1,ho,hc,hd,ff⟩:=hk i hi;obtain⟨a2,o2,xs2,n2,e2,ho2,hc2,hd2,ff2⟩:=hk j hj;unfold UA;rw [e1,e2];have hi':i < keys.length:=by omega
 have hj':j < keys.length:=by omega
 have gi:keys.getD i []=keys[i]:=by simp [hi']
 have gj:keys.getD j []=keys[j]:=by simp [hj']
 have sh1:=hsh _ (QX hi');have sh2:=hsh _ (QX hj');have rl:=rZ (ks:=keys) hsh hi' hj';rw [rl] at hC;rw [gi] at ff;rw [gj] at ff2;rw [gi,gj] at hC;refine kat_lt ho hd ho2 hd2 (jM ?_ sh1 sh2 ff ff2 hC);have z1:xs.size=keys[i].length:=by have:=ff.length; simpa using this
 have z2:xs2.size=keys[j].length:=by have:=ff2.length; simpa using this
 have z3:keys[i].length=keys[j].length:=by rw [Sh.length sh1,Sh.length sh2]
 exact decide_eq_false ‹0›
theorem E8 {f:SY} {a:S3} {vs:List SY} {n:Nat} {keys:List (List D)} {σ:List Bool} {b:Bool} {P:PySem.Fin->Tc->Prop}
  (ho:s.heap.get? a=some (seqObj "list" vs.toArray n)) (h64:vs.length < 64) (hl:keys.length=vs.length) (hsh:∀ k∈keys,Sh (b::σ) k)
  (hc:∀ (i:Nat) (v:SY) (h':S5) (tk:Nat) (Q':SY->Tc->Prop),vs[i]?=some v->(∀ c o,c≠a->s.heap.get? c=some o->h'.get? c=some o) ->
   (∀ k h'' tk',(∀ c o,h'.get? c=some o->h''.get? c=some o)->u6 (keys.getD i []) h'' k->Q' k { s with heap:=h'',toks:=tk' })->Te (model prog w) A (call f [v]) Q' (fun _ _=>False) { s with heap:=h',toks:=tk })
  (h:∀ (p:Array Nat) (h':S5) (e tk:Nat),PM vs.length p->Up (rank keys) p vs.length->(∀ c o,c≠a->s.heap.get? c=some o->h'.get? c=some o)->h'.get? a=some (seqObj "list" (List.toArray (p.toList.map fun i=>vs.getD i Value.none)) e) ->
   P (.done (.ret .none)) { s with heap:=h',toks:=tk }):Te (model prog w) A (ksk_tree a f false) P E s:=by
 have ha:a < s.heap.objs.size:=Si ho;obtain⟨e1,ho1⟩:∃ e1,(s.heap.update a (Obj.mapSeq fun _=>(#[]:Array SY))).get? a=some (seqObj "list" #[] e1):=⟨_,UC ho (fun _=>#[])⟩
 unfold ksk_tree;refine Tp (listItems_at ho rfl ?_);refine Tp (UB ho rfl ?_ (by rw [Pm,Tx]; omega) (Pu _));refine Tp (UD ho1 rfl ?_);refine Tp (Uv ?_ (by show vs.length<=_; rw [Tx]; omega));refine Tp (UE ?_ (Pu _));refine T5 ?_;have hkS:((s.heap.update a (Obj.mapSeq fun _=>(#[]:Array SY))).push (seqObj "tuple" vs.toArray 0)).objs.size=s.heap.objs.size+1:=by rw [size_push',Sw]
 show Te (model prog w) A (ksk_rest a f false vs.toArray e1 (.ref ((s.heap.update a (Obj.mapSeq fun _=>(#[]:Array SY))).push (seqObj "tuple" vs.toArray 0)).objs.size)) P E { s with heap:=((s.heap.update a (Obj.mapSeq fun _=>(#[]:Array SY))).push (seqObj "tuple" vs.toArray 0)).push (seqObj "list" #[] 0) };rw [hkS];have hS0:(((s.heap.update a (Obj.mapSeq fun _=>(#[]:Array SY))).push (seqObj "tuple" vs.toArray 0)).push (seqObj "list" #[] 0)).get? (s.heap.objs.size+1)=some (seqObj "list" #[] 0):=by rw [<- hkS]; exact Sq _ rfl
 have hA0:(((s.heap.update a (Obj.mapSeq fun _=>(#[]:Array SY))).push (seqObj "tuple" vs.toArray 0)).push (seqObj "list" #[] 0)).get? a=some (seqObj "list" #[] e1):=Sn _ (Sn _ ho1);have hK0:∀ b o,b≠a->s.heap.get? b=some o->(((s.heap.update a (Obj.mapSeq fun _=>(#[]:Array SY))).push (seqObj "tuple" vs.toArray 0)).push (seqObj "list" #[] 0)).get? b=some o:=fun b o hb e =>
  Sn _ (Sn _ (by rw [Sx _ _ _ _ hb]; exact e))
 have hne:a≠s.heap.objs.size+1:=O1 (Qa ha);have hold:∀ c o,s.heap.get? c=some o->c≠s.heap.objs.size+1:=fun c o e=>O1 (Qa (Si e));generalize (((s.heap.update a (Obj.mapSeq fun _=>(#[]:Array SY))).push (seqObj "tuple" vs.toArray 0)).push (seqObj "list" #[] 0))=h0 at hS0 hA0 hK0;generalize s.heap.objs.size+1=kS at hS0 hne hold;unfold ksk_rest;refine Tp (Uh ?_)
 first
  | rw [List.forIn_toArray]
  | (rw [<- Array.forIn_toList]; simp only [Q1])
  | rw [<- Array.forIn_toList]
 refine Tp (ksk_fold (fun i s'=>∃ (ks:List SY) (e:Nat) (h':S5) (tk:Nat),s'={ s with heap:=h',toks:=tk }/\ks.length=i/\i<=vs.length/\h'.get? kS=some (seqObj "list" (List.toArray ks) e)/\h'.get? a=some (seqObj "list" #[] e1) /\
  (∀ c o,c≠a->s.heap.get? c=some o->h'.get? c=some o)/\∀ j,j < i->u6 (keys.getD j []) h' (ks.getD j Value.none)) vs 0 _ ⟨[],0,h0,s.toks,rfl,rfl,Pu _,hS0,hA0,hK0,fun j hj=>absurd hj (Nat.not_lt_zero _)⟩ ?_ ?_)
 ·rintro j x s' hx ⟨ks,e,h',tk,rfl,hlen,hle,hS,hA,hK,hT⟩;rw [QG] at hlen hle hT;have hj:j < vs.length:=by
   rcases Q2 j vs.length with z | z
   ·exact z
   ·rw [Q3 z] at hx; cases hx
  refine Tp (Uw (Ti (hc j x h' tk (fun k s''=>∃ h'' tk',s''={ s with heap:=h'',toks:=tk' }/\(∀ c o,h'.get? c=some o->h''.get? c=some o)/\u6 (keys.getD j []) h'' k) hx hK fun k h'' tk' kp tK=>⟨h'',tk',rfl,kp,tK⟩) (fun k s'' hk=>?_) fun _ _ hF=>hF.elim));obtain⟨h'',tk',rfl,kp,tK⟩:=hk;have nk:=kp _ _ hS;have s1:∀ c o,c≠kS->h''.get? c=some o->(h''.update kS (Obj.mapSeq (·.push k))).get? c=some o:=fun c o hc' e=>by rw [Sx _ _ _ _ hc']; exact e
  have ea:(List.toArray ks).push k=List.toArray (ks++[k]):=by simp
  obtain⟨c2,hc2⟩:∃ c2,(h''.update kS (Obj.mapSeq (·.push k))).get? kS=some (seqObj "list" (List.toArray (ks++[k])) c2):=⟨_,by rw [<- ea]; exact UC nk (·.push k)⟩
  try dsimp only
  refine Tp (UB nk rfl ?_ (by rw [Pm,Tx]; omega) (O2 (Pt (Array.size_push ..)) (by rw [Pm,Tx]; omega)));refine To ⟨rfl,ks++[k],c2,_,tk',rfl,by rw [PK,PR]; omega,by omega,hc2,s1 _ _ hne (kp _ _ hA),fun c o h1 h2=>s1 _ _ (hold c o h2) (kp _ _ (hK c o h1 h2)),fun i hi=>?_⟩;refine u6.stay (c:=kS) ?_ nk s1;by_cases z:i=j
  ·subst z
   have:(ks++[k]).getD i Value.none=k:=(by simp [QZ,<- hlen]);rw [this]; exact tK
  ·have hi':i < ks.length:=by omega
   have:(ks++[k]).getD i Value.none=ks.getD i Value.none:=(by simp [QZ,PD hi']);rw [this]; exact(hT i ‹0›).keep kp
 ·rintro s' ⟨ks,e,h',tk,rfl,hlen,hle,hS,hA,hK,hT⟩;rw [QG] at hlen hT
  try dsimp only
  refine Tp (listItems_at hS rfl ?_);have tail:∀ (p:Array Nat) (st:SortSt),(arrOf st).map (·.2)=List.toArray (p.toList.map fun i=>vs.getD i Value.none)->failedOf st=none->PM vs.length p->Up (rank keys) p vs.length->Te (model prog w) A (ksk_tail a false e1 (.ref kS) st) P E { s with heap:=h',toks:=tk }:=by
   intro p st hout hf hp hu;obtain⟨ck,hck⟩:∃ ck,(h'.update kS (Obj.mapSeq fun _=>(#[]:Array SY))).get? kS=some (seqObj "list" #[] ck):=⟨_,UC hS fun _=>#[]⟩
   have hA2:(h'.update kS (Obj.mapSeq fun _=>(#[]:Array SY))).get? a=some (seqObj "list" #[] e1):=(by rw [Sx _ _ _ _ hne]; exact hA);obtain⟨c2,hc2⟩:∃ c2,((h'.update kS (Obj.mapSeq fun _=>(#[]:Array SY))).update a (Obj.mapSeq fun _=>List.toArray (p.toList.map fun i=>vs.getD i Value.none))).get? a=some (seqObj "list" (List.toArray (p.toList.map fun i=>vs.getD i Value.none)) c2):=⟨_,UC hA2 fun _=>List.toArray (p.toList.map fun i=>vs.getD i Value.none)⟩
   unfold ksk_tail
   try dsimp only
   rw [hout];refine Tp (UB hS rfl ?_ (by rw [Pm,Tx]; omega) (Pu _));refine Tp (Uu ?_);refine Tp (UD hA2 rfl ?_);simp only [P9,if_false];refine Tp (UB hA2 rfl ?_ (Pu _) (by rw [Pm,Pr,Array.length_toList,hp.size,Tx]; omega));rw [hf];simp only [bne_self_eq_false,P9,if_false];exact To (h p _ c2 tk hp hu (fun c o h1 h2=>by rw [Sx _ _ _ _ h1,Sx _ _ _ _ (hold c o h2)]; exact hK c o h1 h2) hc2)
  unfold ksk_end
  try dsimp only
  simp only [P9,if_false];have hl2:ks.length=vs.length:=hlen;by_cases h2:vs.toArray.size < 2
  ·rw [if_pos h2,if_pos h2];refine Tp (To ?_);rw [StateT.run_pure];refine Tp (To ?_);dsimp only;refine tail (List.toArray (List.range vs.length)) _ ?_ rfl (Array.Perm.refl _) fun i j hij hj=>?_
   ·refine kat_snds hl2 ?_;show (List.toArray ks).zip vs.toArray=_;have e:=kas_range ((List.toArray ks).zip vs.toArray);rw [show ((List.toArray ks).zip vs.toArray).size=vs.length by simp [hl2]] at e;exact e.symm
   ·have:vs.length < 2:=by simpa using h2
    have:i=j:=(by omega);subst this; exact Ph _
  ·have h2':2<=vs.length:=by
    have:¬ vs.length < 2:=(by simpa using h2);omega
   rw [if_neg h2,if_neg h2];refine Tp (B5 (s:={ s with heap:=h',toks:=tk }) ‹0› hsh ‹0› (fun i hi=>hT i ‹0›) ?_);refine Tp (Ti (kat_run (Q:=fun st' s'=>∃ p:Array Nat,arrOf st'=p.map (kas_item ((List.toArray ks).zip vs.toArray))/\failedOf st'=none/\PM vs.length p/\Up (rank keys) p vs.length/\s'={ s with heap:=h',toks:=tk })
    (G:=fun p s'=>PM vs.length p/\Up (rank keys) p vs.length/\s'={ s with heap:=h',toks:=tk })
    hl2 h2' h64 (fun p' st' s' a1 a2 a3 a4=>⟨p',a2,a3,a4.1,a4.2.1,a4.2.2⟩) (by
     have:=Ak (prog:=prog) (w:=w) (A:=A) (s:={ s with heap:=h',toks:=tk }) (ks:=ks) (keys:=keys) ‹0› hsh (fun i hi=>hT i ‹0›)
     rw [hl2] at this;exact A7 this ‹0› fun p hp hu=>⟨hp,hu,rfl⟩)) ?_ fun _ _ e=>e)
   rintro⟨⟨⟩,st'⟩ s' ⟨p,har,hf,hp,hu,rfl⟩;dsimp only;exact tail p st' (kat_snds hl2 har) hf hp hu
theorem zc {src:SY} {f:S3} {vs:List SY} {keys:List (List D)} {σ:List Bool} {b:Bool} {Q:SY->Tc->Prop} (h64:vs.length < 64) (hl:keys.length=vs.length) (hsh:∀ k∈keys,Sh (b::σ) k)
  (hcol:∀ (Q':List SY->Tc->Prop),(∀ h' tk,(∀ b o,s.heap.get? b=some o->h'.get? b=some o)->Q' vs { s with heap:=h',toks:=tk })->Te (model prog w) A.in1 (collect src) Q' E s)
  (hc:∀ (i:Nat) (v:SY) (h':S5) (tk:Nat) (Q':SY->Tc->Prop),vs[i]?=some v->(∀ c o,s.heap.get? c=some o->h'.get? c=some o) ->
   (∀ k h'' tk',(∀ c o,h'.get? c=some o->h''.get? c=some o)->u6 (keys.getD i []) h'' k->Q' k { s with heap:=h'',toks:=tk' })->Te (model prog w) A.in1.in1 (call (.ref f) [v]) Q' (fun _ _=>False) { s with heap:=h',toks:=tk })
  (h:∀ (p:Array Nat) (h1 h':S5) (l:S3) (e tk:Nat),PM vs.length p->Up (rank keys) p vs.length->(∀ b o,s.heap.get? b=some o->h1.get? b=some o)->(∀ b o,h1.get? b=some o->h'.get? b=some o)->h1.objs.size<=l->h'.get? l=some (seqObj "list" (List.toArray (p.toList.map fun i=>vs.getD i Value.none)) e)->Q (.ref l) { s with heap:=h',toks:=tk }) :
  Te (model prog w) A (call (.builtin "sorted") [src] [(Str.ofString "key",.ref f)]) Q E s:=by
 refine PyProof.Rows.call_function_entry_kw kind_sorted plain_sorted entry_sorted (ksk_s1 _ _) ?_;unfold Builtin.«sorted»;refine Tp (m:=checkCount "sorted" 1 1 _) (To ?_);refine Tp (hcol _ fun h1 tk k1=>?_);refine Tp (UE ?_ (by rw [Tx]; omega));have hoL:(h1.push (seqObj "list" vs.toArray 0)).get? h1.objs.size=some (seqObj "list" vs.toArray 0):=Sq _ rfl;have k2:∀ b o,s.heap.get? b=some o->(h1.push (seqObj "list" vs.toArray 0)).get? b=some o:=fun b o e=>Sn _ (k1 b o e);have ne:∀ b o,s.heap.get? b=some o->b≠h1.objs.size:=fun b o e=>O1 (Si (k1 b o e));refine Tp (T5 (wpAny_call_entry_kw slot_list_sort ⟨_,hoL,rfl⟩ entry_list_sort ?body (ksk_l1 _ _)))
 case body =>
  show Te (model prog w) A.in1.in1 (Builtin.«list.sort» ⟨[.ref h1.objs.size],[(Str.ofString "key",.ref f)]⟩) _ _ _;rw [ksk_t1];refine E8 (s:={ s with heap:=h1.push (seqObj "list" vs.toArray 0),toks:=tk }) hoL h64 hl hsh (fun i v h' tk' Q' hv hk hq=>hc i v h' tk' Q' hv (fun c o e=>hk c o (ne c o e) (k2 c o e)) hq) fun p h' e tk' hp hu hk he=>⟨_,rfl,?_⟩
  refine To ⟨_,rfl,?_⟩;exact h p h1 h' h1.objs.size e tk' hp hu k1 (fun b o q=>hk b o (O1 (Si q)) (Sn _ q)) (Ph _) he
end
end TG
namespace TG
open PySem PySem.Spec PyProof.Rows PySem.W L2
variable [aX]
abbrev cutE (row many:Str) (np mp p2 pos:Pos):Tf:=.Subscript (.Name row np) (.Slice none (some (.Name many mp)) none p2) pos
section
variable {prog:S0} {w:SZ} {A:Tb} {E:SY->Tc->Prop} {s:Tc}
theorem DT {env:Env} {row many:Str} {np mp p2 pos:Pos} {r c:S3} {items:Array SY} {i:Int} {t:Tok} {m:Str->Option SY} {Q:SY->Tc->Prop}
  (hk:env.scope.kind=.function) (hr:env.kindOf row=some .local) (hm:env.kindOf many=some .free) (hn:s.heap.Ns env.locals m) (hrow:m row=some (.ref r)) (hc:env.cells.lookup many=some c) (hcell:s.heap.IsCell c (some (.int i t)))
  (ht:S7 s.heap r items) (hz:items.size<=S6) (d1:(row==("__debug__":Str))=false) (d2:(many==("__debug__":Str))=false) (d3:(many==("__classdict__":Str))=false)
  (h:∀ b h',(∀ c o,s.heap.get? c=some o->h'.get? c=some o)->S7 h' b (List.toArray (items.toList.take (HT.sIx items.size items.size (some i))))->Q (.ref b) { s with heap:=h' }) :
  Te (model prog w) A (eval (cutE row many np mp p2 pos) env) Q E s:=by
 refine Ub (Tj (wpAny_loadName_local hk hr hn hrow ?_) d1);refine wpAny_Slice ?_;rw [Ua,evalPart_some];refine To (Tj (wpAny_loadName_free hk hm hc hcell ?_ d3) d2);refine To ?_;have kp:∀ c o,s.heap.get? c=some o->(s.heap.push { cls:=.type "slice",data:=.fields #[.none,.int i t,.none] }).get? c=some o:=fun c o q=>Sn _ q;have ht':S7 (s.heap.push { cls:=.type "slice",data:=.fields #[.none,.int i t,.none] }) r items:=by
  obtain⟨o,e,q⟩:=ht;exact⟨o,kp _ _ e,q⟩
 have hs:(s.heap.push { cls:=.type "slice",data:=.fields #[.none,.int i t,.none] }).IsSliceOf s.heap.objs.size .none (.int i t) .none:=Heap.IsSliceOf.new ..
 show Te (model prog w) A (subscriptTail (.Name row np) (.Slice none (some (.Name many mp)) none p2) (.ref r) (.ref s.heap.objs.size)) Q E { s with heap:=s.heap.push { cls:=.type "slice",data:=.fields #[.none,.int i t,.none] } };refine tail_any (ops:=[.ref s.heap.objs.size,.ref r]) ht'.typeIs slot_tuple_getitem.lookup ?_ (by with_unfolding_all rfl);by_cases hw:HT.sIx items.size 0 none=0/\HT.sIx items.size items.size (some i)=items.size
 ·refine i5 (s:={ s with heap:=s.heap.push { cls:=.type "slice",data:=.fields #[.none,.int i t,.none] } }) ht' hs .none (.int i t) hw ?_;refine h r _ kp ?_;rw [hw.2]
  have:items.toList.take items.size=items.toList:=Q4 (by simp)
  rw [this]
  simpa using ht'
 ·refine HT.Bp (s:={ s with heap:=s.heap.push { cls:=.type "slice",data:=.fields #[.none,.int i t,.none] } }) ht' hs .none (.int i t) hw ?_ hz;refine h _ _ (fun c o q=>Sn _ (kp c o q)) ?_;have e0:HT.sIx items.size 0 none=0:=rfl;rw [e0,Qf,Qt];exact⟨_,Sq _ rfl,rfl,_,rfl⟩
theorem D3 {f c' cc r:S3} {row many qual:Str} {params:TU} {scope:Td} {np mp p2 pos:Pos} {pm ctv:SY} {items:Array SY} {i:Int} {t:Tok} {Q:SY->Tc->Prop}
  (hf:s.heap.get? f=some (UH "<lambda>" qual params (cutE row many np mp p2 pos) scope [(many,cc)] pm c' ctv)) (hcd:s.heap.CodeRec (.ref c') qual) (hroom:A.depth < TH) (hlim:s.heap.NoLimit)
  (hbind:∀ v,bindArgs (kla_fn "<lambda>" qual params (cutE row many np mp p2 pos) scope [(many,cc)] pm (.ref c') ctv) ⟨[v],[]⟩=pure [(row,v)])
  (hco:scope.isCoroutine=false) (hgen:scope.isGenerator=false) (hk:scope.kind=.function) (hno:∀ x∈scope.names,x.2≠.cell) (hr:scope.names.lookup row=some .local) (hm:scope.names.lookup many=some .free)
  (hcell:s.heap.IsCell cc (some (.int i t))) (ht:S7 s.heap r items) (hz:items.size<=S6) (d1:(row==("__debug__":Str))=false) (d2:(many==("__debug__":Str))=false) (d3:(many==("__classdict__":Str))=false)
  (h:∀ b h' tk,(∀ c o,s.heap.get? c=some o->h'.get? c=some o)->S7 h' b (List.toArray (items.toList.take (HT.sIx items.size items.size (some i))))->Q (.ref b) { s with heap:=h',toks:=tk }) :
  Te (model prog w) A (call (.ref f) [.ref r]) Q E s:=by
 refine wpAny_call (kla_callFunE hroom hf rfl hco hgen rfl hcd ?_);rw [hbind];refine To (wpAny_newFunctionEnv hno (fun x hx=>?_) (fun h₁ hns hsb=>⟨hlim.fresh _ hsb,?_⟩) hk)
 ·rw [Q5] at hx;subst hx;exact hr
 ·show Tz _ _ (.expr (cutE row many np mp p2 pos) (envX qual scope s.heap.objs.size f (.ref c') [(many,cc)])) _ _;have hk₁:∀ b o,s.heap.get? b=some o->h₁.get? b=some o:=fun b o e=>hsb.extBut b o (O1 (Si e)) (Sn _ e);refine kla_codeExpr (DT (m:=fun x=>[(row,Value.ref r)].reverse.lookup x) (r:=r) (c:=cc) (t:=t) hk hr hm hns ?_ ?_ ?_ ?_ hz d1 d2 d3 fun b h' kp tb=>h b h' _ (fun c o e=>kp c o (hk₁ c o e)) tb)
  ·simp
  ·simp
  ·obtain⟨o,e,q⟩:=hcell;exact⟨o,hk₁ _ _ e,q⟩
  ·obtain⟨o,e,q⟩:=ht;exact⟨o,hk₁ _ _ e,q⟩
end
end TG
namespace TG
open PySem PySem.Spec PyProof.Rows PySem.W L2
variable [aX]
def Cw (mg:Str->Option SY) (base:S5) (c P:S3):Prop:=CodeHd base c P/\∃ bm ob,mg "__builtins__"=some (.ref bm)/\bm≠S9/\base.get? bm=some ob/\ob.cls=.type "module"/\ob.dict=some S9/\ob.data=.plain
section
variable {fs ex:List S3} {Pg:S0} {w:SZ} {H:Hp} {h h':S5} {P c':S3} {φ:(S3->Prop)->S5->Prop}
theorem JL (hP:H P=some (.ext φ)) (k:∀ b o,b≠P->h.get? b=some o->h'.get? b=some o) (hp:∃ o,h'.get? P=some o) (hc:h.objs.size<=c') (hn:H c'=none):Un fs ex H (upd H c' (.own P)) h h' where
 keep:=fun b u q n _ _=>k b u (fun z=>by rw [z,hP] at n; cases n) q
 slot:=fun b u q n _ _=>⟨u.slots,k b u (fun z=>by rw [z,hP] at n; cases n) q⟩
 free:=fun b u q n _=>by rw [aE (O1 (OZ (Si q) hc))]; exact n
 there:=fun b u q _=>by
  by_cases z:b=P
  ·rw [z]; exact hp
  ·exact⟨u,k b u z q⟩
 tups:=fun b xs q=>by rw [aE (bc q hn)]; exact q
 frzs:=fun b u xs q=>by rw [aE (bc q hn)]; exact q
 tbls:=fun b ps q=>⟨#[],by rw [aE (bc q hn),q]; simp⟩
theorem Hj (x:pA Pg w H h) (hP:H P=some (.ext φ)) (k:∀ b o,b≠P->h.get? b=some o->h'.get? b=some o) (hc:h.objs.size<=c') (ho:∃ o,h'.get? c'=some o) (new:cK Pg w (upd H c' (.own P)) h' P (.ext φ)):pA Pg w (upd H c' (.own P)) h':=fun b u e=>by
 have hn:=x.fresh hc;by_cases hb:b=c'
 ·subst hb; rw [aQ] at e; cases e; exact ho
 ·rw [aE hb] at e;by_cases hb2:b=P
  ·subst hb2; rw [hP] at e; cases e; exact new
  ·refine(x b u e).stay (fun c v hc' q=>k c v ?_ q) (fun c q=>by rw [aE (bc q hn)]; exact q) fun c xs q=>by rw [aE (bc q hn)]; exact q
   rcases hc' with rfl | hc'
   ·exact hb2
   ·rintro rfl;rw [hP] at hc'; cases hc'
end
theorem Cw.blt {mg:Str->Option SY} {base h:S5} {c P:S3} {m:Str->Option SY} (B:Cw mg base c P) (kp:∀ b o,base.get? b=some o->h.get? b=some o) (hP:base.get? P=none) (hg:base.Ns S8 m):h.BuiltinsAt mg P:=by
 obtain⟨_,bm,ob,b1,b2,b3,b4,b5,b6⟩:=B;refine⟨bm,ob,b1,b2,fun z=>?_,fun z=>?_,kp _ _ b3,b4,b5,b6⟩
 ·subst z;obtain⟨o,es,ep,e,hd,_⟩:=hg;rw [e] at b3; cases b3; rw [hd] at b6; cases b6
 ·subst z;rw [hP] at b3; cases b3
section
variable {X:Cx} {pins:List (S3×Obj)} {s:Tc} {σ:L2.St} {H:Hp} {E:SY->Tc->Prop}
theorem DM {c P:S3} {lpos:Pos} {params:TU} {body:Tf} {scope:Td} {clos:List (Str×S3)} {Q:SY->Tc->Prop} (I:Inv X pins σ H s) (B:Cw X.mg X.base c P) (hcode:X.env.code=.ref c) (hP:H P=some (.ext (pK P lpos (X.env.qual ++ "<lambda>"))))
  (hdef:defaultsOf params X.env=([],[])) (hcl:closureFor scope X.env=pure clos)
  (h:∀ f c' ctv s' H',Inv X pins σ H' s'->bn H H'->s'.heap.get? f=some (UH "<lambda>" (X.env.qual ++ "<lambda>") params body scope clos ((X.mg "__name__").getD .none) c' ctv)->s'.heap.CodeRec (.ref c') (X.env.qual ++ "<lambda>")->Q (.ref f) s') :
  Te (model X.prog X.w) X.A (eval (.Lambda params body scope lpos) X.env) Q E s:=by
 have hg:s.heap.Ns S8 X.mg:=I.mod.glob.keeps I.bk;have hPn:X.base.get? P=none:=by
  cases q:X.base.get? P with
  | none=>rfl
  | some o=>have:=(I.bs P o q).2; rw [hP] at this; cases this
 have hgP:S8≠P:=fun z=>by
  obtain⟨o,es,ep,e,_⟩:=I.mod.glob;rw [z,hPn] at e; cases e
 have hb:=B.blt I.bk hPn I.mod.glob;have C:=B.1.keeps I.bk;obtain⟨tb,_,_⟩:=I.hok P _ hP;refine kla_eval hdef ?_;rcases tb with e | ⟨c',hc',e,hrec⟩
 ·refine kla_makeFunction hcl I.ok.glob hg hcode C e trivial rfl hgP hb fun c' ctv h' tk hx hge hlt hrec htb=>?_;have hn:=I.hok.fresh hge;have htb':h'.get? P=some (tabObj #[rawInt lpos.line,rawInt lpos.col,.ref c']):=by simpa using htb
  have kp:∀ b o,b≠P->s.heap.get? b=some o->(h'.push (UH "<lambda>" (X.env.qual ++ "<lambda>") params body scope clos ((X.mg "__name__").getD .none) c' ctv)).get? b=some o:=fun b o hb' q=>Sn _ (hx b o hb' q);have hrec':(h'.push (UH "<lambda>" (X.env.qual ++ "<lambda>") params body scope clos ((X.mg "__name__").getD .none) c' ctv)).CodeRec (.ref c') (X.env.qual ++ "<lambda>"):=by
   obtain⟨c2,oc,vs,t,ec,eo,r⟩:=hrec;exact⟨c2,oc,vs,t,ec,Sn _ eo,r⟩
  have hco:∃ o,(h'.push (UH "<lambda>" (X.env.qual ++ "<lambda>") params body scope clos ((X.mg "__name__").getD .none) c' ctv)).get? c'=some o:=by
   obtain⟨c2,oc,vs,t,ec,eo,r⟩:=hrec;cases ec;exact⟨oc,Sn _ eo⟩
  refine h _ c' ctv _ (upd H c' (.own P)) (I.un (JL hP kp ⟨_,Sn _ htb'⟩ hge hn) (Hj I.hok hP kp hge hco (pK.ok (.inr ⟨c',aQ,Sn _ htb',hrec'⟩)))) (bF hn _) (Sq _ rfl) hrec'
 ·refine kla_makeFunctionHit (cv:=.ref c') hcl I.ok.glob hg hcode C e trivial ?_ hb fun ctv h' tk hk hsz=>?_
  ·show (if ((lpos.line:Int)==(lpos.line:Int) && (lpos.col:Int)==(lpos.col:Int))=true then some (Value.ref c') else _)=_;simp
  ·have kp:∀ b o,s.heap.get? b=some o->(h'.push (UH "<lambda>" (X.env.qual ++ "<lambda>") params body scope clos ((X.mg "__name__").getD .none) c' ctv)).get? b=some o:=fun b o q=>Sn _ (hk b o q);refine h _ c' ctv _ H (I.kept kp) (bn.refl H) (Sq _ rfl) ?_;obtain⟨c2,oc,vs,t,ec,eo,r⟩:=hrec;exact⟨c2,oc,vs,t,ec,kp _ _ eo,r⟩
end
def uT (m:Nat):D->List D
 | .tup ks=>ks.take m
 | _=>[]
def KO (m:Nat) (xs:List D):Prop:=xs.length < 64/\∃ σ:List Bool,σ≠[]/\(∀ x∈xs,∃ k,x=.tup k/\Sh σ (k.take m))/\xs.Pairwise fun x y=>uT m x≠uT m y
open Classical in
noncomputable def sX (m:Nat) (xs:List D):Option D:=if KO m xs then some (.lst (iX (uT m) xs)) else none
noncomputable def p6:D->D->Option D
 | .lst xs,.int i=>if 0<=i then sX i.toNat xs else none
 | .tup xs,.int i=>if 0<=i then sX i.toNat xs else none
 | _,_=>none
theorem vh:∀ {vs:List V} {us:List SY} (n:Nat),Vals vs us->Vals (vs.take n) (us.take n)
 | _,_,0,_=>by rw [Qc,Qc]; exact .nil
 | _,_,_+1,.nil=>.nil
 | _,_,n+1,.cons r t=>by rw [Qe,Qe]; exact .cons r (vh n t)
theorem Gm {i:Int} (h:0<=i) (n:Nat):HT.sIx n n (some i)=min i.toNat n:=by
 show (if i < 0 then _ else _)=_;rw [if_neg ‹0›]
theorem jf:Ta "sorted"=some (.builtin "sorted"):=by first | rfl | decide +kernel
section
variable {X:Cx} {pins:List (S3×Obj)} {s:Tc} {σ:L2.St} {H:Hp} {O:List S3}
theorem zT {u:SY} {ds:List D} {vs:List V} {its:List SY} {d:D} {i:Int} {t:Tok} {c' cc f:S3} {row many qual:Str} {params:TU} {scope:Td} {np mp p2 pos:Pos} {pm ctv:SY} {Q:VK}
  (I:Inv X pins σ H s) (hO:eL H O) (dn:aZ X.K (hid H O) ds vs) (rv:Vals vs its) (h0:0<=i) (hs:sX i.toNat ds=some d)
  (hf:s.heap.get? f=some (UH "<lambda>" qual params (cutE row many np mp p2 pos) scope [(many,cc)] pm c' ctv)) (hcd:s.heap.CodeRec (.ref c') qual) (hroom:X.A.depth < TH)
  (hbind:∀ v,bindArgs (kla_fn "<lambda>" qual params (cutE row many np mp p2 pos) scope [(many,cc)] pm (.ref c') ctv) ⟨[v],[]⟩=pure [(row,v)])
  (hco:scope.isCoroutine=false) (hgen:scope.isGenerator=false) (hk:scope.kind=.function) (hno:∀ x∈scope.names,x.2≠.cell) (hr:scope.names.lookup row=some .local) (hm:scope.names.lookup many=some .free)
  (hcell:s.heap.IsCell cc (some (.int i t))) (d1:(row==("__debug__":Str))=false) (d2:(many==("__debug__":Str))=false) (d3:(many==("__classdict__":Str))=false)
  (hcol:∀ (Q':List SY->Tc->Prop),(∀ h' tk,(∀ b o,s.heap.get? b=some o->h'.get? b=some o)->Q' its { s with heap:=h',toks:=tk })->Te (model X.prog X.w) X.A.in1 (collect u) Q' X.xe s)
  (q:∀ v H',bn H H'->cY X.K (hid H' O) d v->Q v H'):Te (model X.prog X.w) X.A (call (.builtin "sorted") [u] [(Str.ofString "key",.ref f)]) (EP X pins σ Q) X.xe s:=by
 have l1:=dn.length;have l2:=rv.length;unfold sX at hs;split at hs
 ·rename_i hS;cases hs;obtain⟨h64,σ',hσ,hsh,pw⟩:=hS;obtain⟨b,σ1,rfl⟩:∃ b σ1,σ'=b::σ1:=by
   cases σ' with
   | nil=>exact absurd rfl hσ
   | cons b σ1=>exact⟨b,σ1,rfl⟩
  have hsh':∀ x∈ds,Sh (b::σ1) (uT i.toNat x):=fun x hx=>by
   obtain⟨k,rfl,hk⟩:=hsh x hx;exact hk
  refine zc (keys:=ds.map (uT i.toNat)) (σ:=σ1) (b:=b) ‹0› (by rw [Pr]; omega) (fun k hk=>by obtain⟨x,hx,rfl⟩:=List.mem_map.mp hk; exact hsh' x hx) hcol (fun j v h' tk Q' hv kp hq=>?_) fun p h1 h' l e tk hp hu k1 k2 hl he=>?_
  ·have hj:j < its.length:=by
    rcases Q2 j its.length with z | z
    ·exact z
    ·rw [Q3 z] at hv; cases hv
   have hj':j < ds.length:=(by omega);obtain⟨v0,e1,dv⟩:=dn.get (i:=j) (d:=ds[j]) (by simp [hj']);obtain⟨w,e2,rw'⟩:=rv.get e1;rw [hv] at e2;cases e2;obtain⟨k,ek,hk'⟩:=hsh _ (QX hj');have ekey:(ds.map (uT i.toNat)).getD j []=k.take i.toNat:=by
    have:(ds.map (uT i.toNat)).getD j []=uT i.toNat ds[j]:=(by simp [hj']);rw [this,ek]; rfl
   rw [ekey] at hq;rw [ek] at dv;obtain⟨a,ws,rfl,ha,dk⟩:=cJ.mp dv;cases rw';obtain⟨it2,r2,ht,hz⟩:=I.tuple (bY (aB H O) ha);have hz':it2.toArray.size<=S6:=(by rw [Pm,<- r2.length]; exact hz);refine D3 (s:={ s with heap:=h',toks:=tk }) (i:=i) (t:=t) (kp _ _ hf) ?_ hroom (I.nolimit.keeps kp) hbind hco hgen hk hno hr hm ?_ (items:=it2.toArray) ?_ hz' d1 d2 d3 fun b2 h'' tk' kp2 tb=>?_
   ·obtain⟨c2,oc,vs',t',ec,eo,r⟩:=hcd;exact⟨c2,oc,vs',t',ec,kp _ _ eo,r⟩
   ·obtain⟨o,e,q⟩:=hcell;exact⟨o,kp _ _ e,q⟩
   ·obtain⟨o,e,q⟩:=ht;exact⟨o,kp _ _ e,q⟩
   ·refine hq _ h'' tk' kp2 ?_;obtain⟨o,eo,hc,n,hd⟩:=tb;refine⟨b2,o,_,n,rfl,eo,hc,hd,?_⟩;have e3:(List.toArray (it2.toArray.toList.take (HT.sIx it2.toArray.size it2.toArray.size (some i)))).toList=it2.take i.toNat:=by
     rw [Gm h0];simp only [Pm,Q1];rcases Q6 i.toNat it2.length with z | z
     ·rw [Q7 z]
     ·rw [Q8 z,Q4 (Ph _),Q4 z]
    rw [e3];exact kL (rT hk') (dk.take i.toNat) (vh i.toNat r2)
  ·have el:its.length=ds.length:=(by omega);rw [el] at hp hu;have ps:=rp (key:=uT i.toNat) hsh' pw hp hu;have hr:p.toList.Perm (List.range ds.length):=by
    have:=Array.perm_iff_toList_perm.mp hp
    simpa using this
   have hlt:∀ i∈p.toList,i < ds.length:=fun i hi=>by simpa using hr.mem_iff.mp hi
   have I1:Inv X pins σ H { s with heap:=h1,toks:=tk }:=I.kept k1;have hn:H l=none:=I1.hok.fresh hl;have rv':=qp rv p.toList fun i hi=>by have:=hlt i hi; omega
   have dn':=ql dn p.toList hlt;have hlen:p.toList.length=ds.length:=(by rw [hr.length_eq,Qr]);refine⟨.ref l,_,Inv.laid (s:={ s with heap:=h1,toks:=tk }) (t':=tk) I1 k2 hl (show cK X.prog X.w _ h' _ (.lst (p.toList.map fun i=>vs.getD i .non)) from ⟨by rw [Pr,hlen,Tx]; omega,_,e,rv',he⟩),rfl,?_⟩;refine q _ _ (bF hn _) ?_;rw [<- ps];exact dU hO hn dn'
 ·cases hs
theorem J7 {f:FX} {j:Nat} {k:Nat} {c P cc:S3} {e:Tf} {p lpos kp pos np mp p2 spos:Pos} {row many:Str} {params:TU} {scope:Td}
  (hr:fN k X.A) (hg:Gl X "sorted") (hm:X.mg "sorted"=none) (B:Cw X.mg X.base c P) (hcode:X.env.code=.ref c) (hT:∀ H,aX.tab H->H P=some (.ext (pK P lpos (X.env.qual ++ "<lambda>"))))
  (he:FE X e f) (hN:X.N[j]?=some many) (hkm:X.env.kindOf many=some .cell) (hv:HY X.env.scope many) (hcc:X.env.cells.lookup many=some cc) (hcl:closureFor scope X.env=pure [(many,cc)]) (hdef:defaultsOf params X.env=([],[]))
  (hbind:∀ cdv ctv v,bindArgs (Sa "<lambda>" (X.env.qual ++ "<lambda>") params (cutE row many np mp p2 spos) scope [(many,cc)] ((X.mg "__name__").getD .none) cdv ctv) ⟨[v],[]⟩=pure [(row,v)])
  (hco:scope.isCoroutine=false) (hgen:scope.isGenerator=false) (hk:scope.kind=.function) (hno:∀ x∈scope.names,x.2≠.cell) (hlr:scope.names.lookup row=some .local) (hlm:scope.names.lookup many=some .free)
  (d1:(row==("__debug__":Str))=false) (d2:(many==("__debug__":Str))=false) (d3:(many==("__classdict__":Str))=false) (hns:noStar e=true:=by rfl) :
  FE X (.Call (.Name "sorted" p) [e] [⟨some "key",.Lambda params (cutE row many np mp p2 spos) scope lpos,kp⟩] pos) (f2 p6 f (ah j)):=by
 intro pins s σ H Q I ⟨O,ρ,E,hF⟩;refine TQ (mU I hg hm jf ?_);have st:backTo pos (Tg [e] X.env)=(false,eval e X.env)::backTo pos (Tg [] X.env):=by rw [dH hns]; rfl
 refine PyProof.Rows.callWith_kw ?_ ?_ (gB (by rw [Qh,hns]; rfl))
 ·refine eZ (lG he qf (dH hns) pos pins s σ H (fun vs H1=>∃ v d a m,vs=[v]/\bn H H1/\ρ[j]?=some (some (.val m))/\p6 a m=some d/\cY X.K (hid H1 O) a v/\∀ v H',bn H H'->cY X.K (hid H' O) d v->Q v H') I ⟨O,ρ,E,(jw.bind hF).imp fun a hF v H1 s1 d1=>?_⟩) fun us s1 ⟨vs,H1,I1,rv,v,d,a,m,ev,s1',em,hd,dn,q⟩=>?_
  ·obtain⟨m,em,hF⟩:=vk (jw.bind hF);obtain⟨d,e,q⟩:=jw.rO hF;exact⟨v,d,a,m,rfl,s1,em,e,d1,q⟩
  ·subst ev;obtain⟨u,eu,ru⟩:=vals1 rv;subst eu;have E1:=E.same s1';show Te _ _ (evalAll ((do let v <- eval (.Lambda params (cutE row many np mp p2 spos) scope lpos) X.env; standAt pos; pure v)::[])) _ _ s1;refine wpAny_evalAll_cons (Tp (DM I1 B hcode (hT _ E1.all.1) hdef hcl fun fa c' ctv s2 H2 I2 s2' hfa hcr=>Tp (Ue (To (wpAny_evalAll_nil ?_)))));show Te (model X.prog X.w) X.A (call (.builtin "sorted") [u] [(Str.ofString "key",.ref fa)]) (EP X pins σ Q) X.xe s2;have E2:=E1.same s2';obtain⟨vm,e3,dm⟩:=E2.val j m em;have core:∀ (i:Int) (xs:List D),m=.int i->0<=i->sX i.toNat xs=some d->∀ (ys:List V) (its:List SY),aZ X.K (hid H2 O) xs ys->Vals ys its ->
     (∀ (Q':List SY->Tc->Prop),(∀ h' tk,(∀ b o,s2.heap.get? b=some o->h'.get? b=some o)->Q' its { s2 with heap:=h',toks:=tk })->Te (model X.prog X.w) X.A.in1 (collect u) Q' X.xe s2) ->
     Te (model X.prog X.w) X.A (call (.builtin "sorted") [u] [(Str.ofString "key",.ref fa)]) (EP X pins σ Q) X.xe s2:=by
    intro i xs ei h0 hs ys its dl ri hcol;subst ei;rw [fW] at dm;subst dm;obtain⟨mm,hns',hl⟩:=I2.loc;obtain⟨uv,ruv,lk⟩:=hl j many (.int i) hN e3 hv;obtain⟨t,rfl⟩:=ruv;have hcell:s2.heap.IsCell cc (some (.int i t)):=by
     rcases lk with ⟨z,_⟩ | ⟨_,c2,ec,hc2⟩
     ·rw [hkm] at z; cases z
     ·rw [hcc] at ec; cases ec; exact hc2
    have dp:=hr.dp;exact zT I2 E2.all dl ri h0 hs hfa hcr ‹0› (fun v=>hbind (.ref c') ctv v) hco hgen hk hno hlr hlm hcell d1 d2 d3 hcol fun v H' sm dd=>q v H' ((s1'.trans s2').trans sm) dd
   have dn2:=dn.mono (cf (O:=O) s2');unfold p6 at hd;split at hd
   ·rename_i xs i;split at hd
    ·rename_i h0;obtain⟨l,ys,el,g1,g2⟩:=cI.mp dn2;subst el;cases ru;obtain⟨its,ri,pl,hz⟩:=I2.list ((aB H2 O).seq g1);have hlen:=ri.length;obtain⟨o,ho,hc,n,hd'⟩:=pl.isList;exact core i xs rfl h0 hd ys its g2 ri fun Q' hQ=>UG l (.inl rfl) ho hc hd' (fun h' k=>by simpa using hQ h' s2.toks k) (by simp only [Pm] <;> omega)
    ·cases hd
   ·rename_i xs i;split at hd
    ·rename_i h0;obtain⟨l,ys,el,g1,g2⟩:=cJ.mp dn2;subst el;cases ru;obtain⟨its,ri,⟨o,ho,hc,n,hd'⟩,hz⟩:=I2.tuple (bY (aB H2 O) g1);have hlen:=ri.length;exact core i xs rfl h0 hd ys its g2 ri fun Q' hQ=>UG l (.inr rfl) ho hc hd' (fun h' k=>by simpa using hQ h' s2.toks k) (by simp only [Pm] <;> omega)
    ·cases hd
   ·cases hd
 ·exact st
end
end TG
namespace TG
open PySem PySem.Spec PyProof.Rows PySem.W L2
section
variable [aX] {P:S0} {w:SZ} {K:RL} {mg:Str->Option SY} {base:S5}
def vP (K:RL) (f:S3) (cdv:SY):Prop:=∃ oc od fd sl,K.lookup f=some ⟨oc,od,.func fd,sl⟩/\fd.code=cdv
theorem vP.one {f:S3} {a b:SY} (h:vP K f a) (h':vP K f b):a=b:=by
 obtain⟨oc,od,fd,sl,e,r⟩:=h;obtain⟨oc',od',fd',sl',e',r'⟩:=h';rw [e] at e';cases e';rw [<- r,<- r']
structure xD (P:S0) (w:SZ) (K:RL) (mg:Str->Option SY) (base:S5) (k:Nat) (N:List Str) (qual:Str) (st:Th) (f:S3) (B:cw):Prop where
 h:∀ (cdv:SY) (A:Tb) (outer:List Env) (s:Tc) (H:Hp) (E:XK),vP K f cdv->fN k (A.deeper (envOfC qual (ax st) s.heap.objs.size f cdv))->Tr (model P w) (A.deeper (envOfC qual (ax st) s.heap.objs.size f cdv)) (envOfC qual (ax st) s.heap.objs.size f cdv) (j5 (oC P w) P w K mg base N qual (ax st) f cdv A outer s H E).xe ->
  zo (j5 (oC P w) P w K mg base N qual (ax st) f cdv A outer s H E) (fF st) B
theorem Ew {x qual:Str} {st:Th} {f:S3} {fd:TK} {N ps:List Str} {k:Nat} {B:cw} (F:wF K x qual st f fd) (SC:aU N ps (ax st)) (hb:xD P w K mg base k N qual st f B) :
  jI P w K mg base (oC P w) (k+1) f fd ps (Di K ps.length (aG B ps.length N.length)):=by
 obtain⟨oc,od,kV,doc,pm,an,cd,ct,osl,rfl,lk,hcd⟩:=F.ex;refine En lk hcd SC (fun vs H Q E h=>?_) fun A outer s H vs Q E hr h=>?_
 ·obtain⟨O,ds,h1,_⟩:=h;exact h1
 ·obtain⟨O,ds,h1,h2,h3,h4⟩:=h;have hl:ds.length=ps.length:=h3.length.trans h1;have e4:aG B ps.length N.length ds=B K0 (env0 N.length ds):=by unfold aG; rw [if_pos hl]
  rw [e4] at h4;refine⟨_,hb.h cd A outer s H E ⟨_,_,_,_,lk,rfl⟩ hr PassesOwn.leaving H O,O,env0 N.length ds,K0,_,⟨sq h2 h3,⟨bn.refl H,fun _ z=>z,fun a z=>.inl z⟩,fun i xs a e=>?_,fun i d e=>by obtain⟨d',_,e2⟩:=jF i _ e; cases e2⟩,rfl,?_⟩
  ·obtain⟨d',_,e2⟩:=jF i _ e;cases e2
  ·generalize B K0 (env0 N.length ds)=r at h4;refine⟨fun z=>by rw [z] at h4; exact h4,fun O' ρ' σ' H' S e=>?_,fun O' ρ' σ' H' S e=>?_,fun O' ρ' σ' H' S e=>?_,fun d O' v H' e b dv=>?_,fun O' ρ' σ' H' x S e=>?_⟩
   ·have e:(.ok .non:R D)=r:=e;subst e;exact h4 .non H' S.base.same (lM.mpr rfl)
   ·have e:(un:R D)=r:=e;subst e;exact h4.elim
   ·have e:(un:R D)=r:=e;subst e;exact h4.elim
   ·subst e;exact h4 v H' b.same (dv.mono (iI b.sub))
   ·have e:(.error (some x):R D)=r:=e;subst e;exact D8 h4 S.base.same S.base.sub
theorem zJ {x qual:Str} {st:Th} {f:S3} {fd:TK} {N ps:List Str} {k:Nat} {B:cw} (F:wF K x qual st f fd) (b:Binds K fd ps []) (m:mg x=some (.ref f)) (SC:aU N ps (ax st)) (hb:xD P w K mg base k N qual st f B) :
  Callee P w K mg base (k+1) x ps (aG B ps.length N.length):=⟨f,fd,Ew F SC hb,b,F.kp,m⟩
end
def Ac (mg:Str->Option SY) (base:S5):Prop:=∃ bm ob,mg "__builtins__"=some (.ref bm)/\bm≠S9/\base.get? bm=some ob/\ob.cls=.type "module"/\ob.dict=some S9/\ob.data=.plain
theorem GA {K:RL} {mg:Str->Option SY} {base:S5} {c P:S3} (X:K.In base) (e:codeHdIn K c P=true) (b:Ac mg base):Cw mg base c P:=⟨codeHd_of_K X e,b⟩
theorem Gv {P:S0} {w:SZ} {K:RL} {mg mb:Str->Option SY} {CX:An} {k:Nat} {fa a c T:S3} {lpos:Pos} {q:Str} {fd:TK} {x:Str} {sp:Sp} {s₁:Tc} {vs:List SY} {ns:List Int}
  (KX:K.In s₁.heap) (hns:s₁.heap.Ns S8 mg) (hb:s₁.heap.Ns S9 mb) (hbb:∀ x:Str,x ≠ "__name__"->mb x=Ta x) (hlim:s₁.heap.NoLimit) (hg:s₁.gens=#[]) (hbm:Ac mg s₁.heap)
  (hT:s₁.heap.get? T=some (tabObj #[])) (hC:codeHdIn K c T=true) (hKT:K.lookup T=none)
  (ha:s₁.heap.get? a=some { cls:=.type "list",data:=.seq vs.toArray }) (hi:IntsAre vs ns) (hl:ns.length<=S6) (hr:fN k callerA)
  (F:∀ base:S5,K.In base->base.Ns S8 mg->Ac mg base->jI P w K mg base CX k fa fd [x] sp) (hbind:∀ (s:Tc) (u:SY),TL s fd ⟨[u],[]⟩ [(x,u)])
  (hsp:∀ H:Hp,H T=some (.ext (pK T lpos q))->oZ K H a (ns.map V.int)->sp [.ref a] H (fun v H'=>v=.bl true/\bn H H') fun _ _ _=>False)
  (hCX:∀ H e s',CX [] H s₁ (fun _ _ _=>False) e s'->False) :
  Tz (model P w) callerA (.call (.ref fa) ⟨[.ref a],[]⟩) (fun r s'=>r=.ok (.ret (.bool true))/\OldK s₁.heap s'.heap/\s'.os=s₁.os/\AllBare s'.gens) s₁:=by
 have rv:=vE hi;have lenV:=hi.length;have aT:a≠T:=fun z=>by rw [z,hT] at ha; cases ha
 obtain⟨H,hH⟩:∃ H:Hp,H=fun b=>if b=T then some (.ext (pK T lpos q)) else if b=a/\(K.lookup a).isNone=true then some (.frz { cls:=.type "list",data:=.seq vs.toArray } (.lst (ns.map V.int))) else none:=⟨_,rfl⟩
 have hHT:H T=some (.ext (pK T lpos q)):=by rw [hH]; exact if_pos rfl
 have cases':∀ b u,H b=some u->(b=T/\u=.ext (pK T lpos q))\/(b=a/\K.lookup a=none/\u=.frz { cls:=.type "list",data:=.seq vs.toArray } (.lst (ns.map V.int))):=fun b u e=>by
  rw [hH] at e;by_cases z:b=T
  ·have e:=(if_pos z).symm.trans e;cases e;exact .inl ⟨z,rfl⟩
  ·have e:=(if_neg z).symm.trans e;by_cases z':b=a/\(K.lookup a).isNone=true
   ·have e:=(if_pos z').symm.trans e;cases e;exact .inr ⟨z'.1,by simpa using z'.2,rfl⟩
   ·have e:=(if_neg z').symm.trans e;cases e
 have free:∀ b o,s₁.heap.get? b=some o->o.cls≠.none->o.cls≠.type "list"->H b=none:=fun b o e h1 h2=>by
  cases z:H b with
  | none=>rfl
  | some u =>
   rcases cases' b u z with ⟨e1,_⟩ | ⟨e1,_⟩
   ·rw [e1,hT] at e; cases e; exact absurd rfl h1
   ·rw [e1,ha] at e; cases e; exact absurd rfl h2
 have freeD:∀ b o es ep,s₁.heap.get? b=some o->o.data=.dict es ep->H b=none:=fun b o es ep e d=>by
  cases z:H b with
  | none=>rfl
  | some u =>
   rcases cases' b u z with ⟨e1,_⟩ | ⟨e1,_⟩
   ·rw [e1,hT] at e; cases e; cases d
   ·rw [e1,ha] at e; cases e;have d':Data.seq vs.toArray _=Data.dict es ep:=d;cases d'
 have hS:oZ K H a (ns.map V.int):=by
  cases hk:K.lookup a with
  | some o =>
   have e:=KX a o hk;rw [ha] at e;cases e;exact .inr ⟨_,vs.toArray,_,hk,rfl,rfl,rfl,by rw [Pm,lenV]; exact hl,by simpa using rv⟩
  | none =>
   refine .inl (.inr ⟨{ cls:=.type "list",data:=.seq vs.toArray },?_⟩);rw [hH];exact(if_neg aT).trans (if_pos ⟨rfl,by rw [hk]; rfl⟩)
 have hok:pA P w H s₁.heap:=fun b u e=>by
  rcases cases' b u e with ⟨e1,e2⟩ | ⟨e1,_,e2⟩
  ·subst e1 e2;exact pK.ok (.inl hT)
  ·subst e1 e2;exact⟨ha,by rw [Pr]; exact hl,vs,_,rv,ha⟩
 have nsK:∀ {b:S3} {m:Str->Option SY},s₁.heap.Ns b m->(xx s₁.heap H).Ns b m:=fun {b m} ⟨o,es,ep,e,d,r⟩=>⟨o,es,ep,tY e (freeD b o es ep e d),d,r⟩
 have hKb:K.In (xx s₁.heap H):=fun b o e=>tY (KX b o e) (by
  cases z:H b with
  | none=>rfl
  | some u =>
   rcases cases' b u z with ⟨e1,_⟩ | ⟨e1,e2,_⟩
   ·rw [e1,hKT] at e; cases e
   ·rw [e1,e2] at e; cases e)
 have hbm':Ac mg (xx s₁.heap H):=by
  obtain⟨bm,ob,b1,b2,b3,b4,b5,b6⟩:=hbm;refine⟨bm,ob,b1,b2,tY b3 (free bm ob b3 ?_ ?_),b4,b5,b6⟩
  ·rw [b4]; simp
  ·rw [b4]; simp
 have hM:Mod K mg (xx s₁.heap H):=⟨hKb,nsK hns,⟨mb,nsK hb,hbb⟩,let ⟨mc,h1,h2⟩:=hlim; ⟨mc,nsK h1,h2⟩⟩
 have e0:B9 P w K mg (xx s₁.heap H) callerA [] s₁ H:=⟨rfl,hM,fun b o e=>GN e,Pt (CN _ _),trivial,fun b hb=>absurd (show b∈([]:List S3) from hb) (by simp),hok,.of_eq hg⟩
 refine TN ((F _ hKb (nsK hns) hbm').run callerA [] s₁ H ⟨[.ref a],[]⟩ [.ref a] [.ref a] _ _ hr e0 (hbind s₁ (.ref a)) (.cons rfl .nil) (hsp H hHT hS)) fun r s' h=>?_;cases r with
 | error e=>exact(hCX H e s' h).elim
 | ok fl =>
  cases fl with
  | next=>exact False.elim h
  | brk=>exact False.elim h
  | cont=>exact False.elim h
  | ret u =>
   obtain⟨v,H',os,bare,unn,hok',r',q'⟩:=h;obtain⟨ev,sm⟩:v=.bl true/\bn H H':=q';subst ev;obtain rfl:u=Value.bool true:=r';have tb:=(hok' T _ (sm _ _ hHT)).1;obtain⟨ps,hps⟩:∃ ps,s'.heap.get? T=some (tabObj ps):=by
    rcases tb with e | ⟨_,_,e,_⟩
    ·exact⟨_,e⟩
    ·exact⟨_,e⟩
   have keep:∀ b o,b≠T->s₁.heap.get? b=some o->s'.heap.get? b=some o:=fun b o hb e=>by
    cases z:H b with
    | none=>exact unn.keep b o e z (by intro z; exact absurd (show b∈([]:List S3) from z) (by simp)) (by simp)
    | some u =>
     rcases cases' b u z with ⟨e1,_⟩ | ⟨e1,_,e2⟩
     ·exact absurd e1 hb
     ·subst e2;have z2:=sm _ _ z;obtain⟨e3,_⟩:=hok' b _ z2;rw [e1,ha] at e; cases e;exact e3
   refine⟨rfl,⟨fun b o e=>?_,fun b o e=>?_⟩,os,bare⟩
   ·by_cases hb:b=T
    ·subst hb;rw [hT] at e; cases e;exact .inr (.inl ⟨((codeHd_of_K KX hC).tab hT).isCodeTable,rfl,#[],ps,rfl,by rw [Array.empty_append]; exact hps⟩)
    ·exact .inl (keep b o hb e)
   ·by_cases hb:b=T
    ·subst hb; exact⟨_,hps⟩
    ·exact⟨o,keep b o hb e⟩
theorem DS {l:Sb} {n k:Nat} {q:S0} {loose:List Str} {XP:(Str->Option SY)->S5->Prop} {YP:SZ->S5->Prop} {d:DefRec} {K:Params->RL} {CX:SZ->An} {sp:SZ->Sp} {x qn:Str} {T:S3} {lpos:Pos}
  (hn:l.most=some n) (hn2:n<=S6) (hdf:d.params.defaults=[]) (hr:fN k callerA)
  (hY:∀ (w:SZ) (h:S5),YP w h->(K w.params).In h/\h.get? T=some (tabObj #[]))
  (F:∀ (w:SZ) (mg:Str->Option SY) (fa:S3) (h:S5),(K w.params).In h->h.Ns S8 mg->mg d.name=some (.ref fa) ->
   (∃ c,codeHdIn (K w.params) c T=true)/\(K w.params).lookup T=none/\∃ fd:TK,(∀ (s:Tc) (u:SY),TL s fd ⟨[u],[]⟩ [(x,u)]) /\
    ∀ base:S5,(K w.params).In base->base.Ns S8 mg->Ac mg base->jI l.prog w (K w.params) mg base (CX w) k fa fd [x] (sp w))
  (hsp:∀ (w:SZ) (H:Hp) (a:S3) (ns:List Int),ns.length<=n->H T=some (.ext (pK T lpos qn))->oZ (K w.params) H a (ns.map V.int)->sp w [.ref a] H (fun v H'=>v=.bl true/\bn H H') fun _ _ _=>False)
  (hCX:∀ (w:SZ) (H:Hp) (s:Tc) (e:SY) (s':Tc),CX w [] H s (fun _ _ _=>False) e s'->False) :
  PySem.W.WalkO q loose XP YP l.row.toRowW d [] (fun f vs=>PySem.call f vs):=by
 refine Att.HB hn hdf fun w s₀ s₁ mg mb fa o pm cd doc a vs ns G Y ho hd hcd hmg hobj hints hlen hg=>?_;obtain⟨KX,hT⟩:=hY w _ Y;obtain⟨⟨c,hC⟩,hKT,fd,hb,hF⟩:=F w mg fa _ KX G.T.g hmg;exact Gv KX G.T.g G.T.b G.T.builtins G.T.nolimit hg G.T.bmain hT hC hKT hobj hints (O2 hlen hn2) hr hF hb (fun H hO hS=>hsp w H a ns hlen hO hS) fun H e s'=>hCX w H s₁ e s'
end TG
namespace TG
open PySem PySem.Spec PySem.Calls L2
open PySem.SeqAt (EqAt list_indexAt)
variable [aX]
section
variable {X:Cx} {p pos:Pos} {e:Tf}
end
end TG
namespace TG
open PySem PySem.Spec L2
variable [aX]
end TG
namespace TG
open PySem PySem.Spec PySem.Calls L2
open PySem.SeqAt (EqAt list_countAt)
variable [aX]
def Gg:=JV (fun _ j=>decide (0<=j)) fun i j=>i / 2 ^ j.toNat
theorem IP {K:RL}:eQ K (rI (fun _ j=>0<=j) fun i j=>.int (i / 2 ^ j.toNat)) Gg:=kE fun _ _ h=>of_decide_eq_true h
def BA:=HK fun i j=>.int (Builtin.bitAnd i j)
theorem Jy {K:RL}:eQ K (Ez fun i j=>.int (Builtin.bitAnd i j)) BA:=tR
def qY:List D->List D->Option (List (Key×D))
 | [],[]=>some []
 | k::ks,d::ds=>(keyOf k).bind fun k=>(qY ks ds).map ((k,d)::·)
 | _,_=>none
abbrev iG (al:List (Key×D)):List D:=al.map fun p=>bz p.1
abbrev xU (al:List (Key×D)):D:=.dct (iG al) (al.map (·.2))
theorem lX (k:Key):keyOf (bz k)=some k:=by cases k <;> rfl
theorem ub {a b:Key} (h:bz a=bz b):a=b:=by
 have e:=congrArg keyOf h;rw [lX,lX] at e;exact Option.some.inj e
theorem zg:∀ {ks ds:List D} {al:List (Key×D)},qY ks ds=some al->ks=iG al/\ds=al.map (·.2)
 | [],[],_,h=>by cases h; exact⟨rfl,rfl⟩
 | k::ks,d::ds,al,h=>by
  unfold qY at h;cases e1:keyOf k with
  | none=>rw [e1] at h; cases h
  | some k' =>
   rw [e1] at h;cases e2:qY ks ds with
   | none=>rw [e2] at h; cases h
   | some al' =>
    rw [e2] at h; cases h;obtain⟨h1,h2⟩:=zg e2;rw [sZ e1,h1,h2]; exact⟨rfl,rfl⟩
 | [],_::_,_,h=>by cases h
 | _::_,[],_,h=>by cases h
theorem vF:∀ al:List (Key×D),qY (iG al) (al.map (·.2))=some al
 | []=>rfl
 | p::r=>by
  show (keyOf (bz p.1)).bind _=_;rw [lX];show (qY (iG r) (r.map (·.2))).map ((p.1,p.2)::·)=_;rw [vF r]; rfl
theorem v6:∀ {al:List (Key×D)} {ks:List Key},iG al=ks.map bz->al.map (·.1)=ks
 | [],[],_=>rfl
 | p::r,k::ks,h=>by
  have h:bz p.1::iG r=bz k::ks.map bz:=h;injection h with h1 h2;rw [Pq,ub h1,v6 h2]
 | [],_::_,h=>by cases h
 | _::_,[],h=>by cases h
theorem M2 {K:RL} {H:Hp} {O:List S3} {a:S3} {al:List (Key×D)} (h:dW K H O a (xU al)) :
  (∃ kvs:List (Key×V),H a=some (.dK kvs)/\kvs.map (·.1)=al.map (·.1)/\aZ K (hid H O) (al.map (·.2)) (kvs.map (·.2)))\/(H a=some (.dT [])/\al=[]):=by
 obtain⟨o,vs,h1,h2,h3⟩:=h;rcases h3 with ⟨kvs,e,e1,e2⟩ | ⟨kvs,e,e1,e2⟩
 ·subst e;refine .inl ⟨kvs,h1,?_,by rw [<- e2]; exact h2⟩;exact(v6 (ks:=kvs.map (·.1)) (by rw [Q0]; exact e1)).symm
 ·subst e;cases kvs with
  | nil =>
   refine .inr ⟨h1,?_⟩
   simpa using e1
  | cons p r =>
   cases al with
   | nil=>cases e1
   | cons q r' =>
    have e1:bz q.1::iG r'=D.tup (p.1.map bz)::r.map (fun p=>D.tup (p.1.map bz)):=e1;injection e1 with e1 _;rcases q with ⟨k,v⟩
    cases k <;> cases e1
section
variable {κ:Type} [DecidableEq κ]
def rK (al:List (κ×D)) (k:κ) (v:D):List (κ×D):=if (al.any fun p=>decide (p.1=k))=true then al.map (fun p=>if p.1=k then (p.1,v) else p) else al++[(k,v)]
theorem CF {kvs:List (κ×V)} {al:List (κ×D)} (e:kvs.map (·.1)=al.map (·.1)) (k:κ) (w:V) (d:D):(putK kvs k w).map (·.1)=(rK al k d).map (·.1):=by
 have e2:(kvs.any fun p=>decide (p.1=k))=(al.any fun p=>decide (p.1=k)):=by
  have:=congrArg (fun l=>l.any fun q=>decide (q=k)) e
  simpa [QN,Function.comp_def] using this
 unfold putK rK;rw [e2];split
 ·have e3:∀ (l:List (κ×V)),(l.map fun kv=>if kv.1=k then (kv.1,w) else kv).map (·.1)=l.map (·.1):=fun l=>by
   rw [Q0]; refine Qp fun p _=>?_;show (if p.1=k then (p.1,w) else p).1=p.1;split <;> rfl
  have e4:∀ (l:List (κ×D)),(l.map fun kv=>if kv.1=k then (kv.1,d) else kv).map (·.1)=l.map (·.1):=fun l=>by
   rw [Q0]; refine Qp fun p _=>?_;show (if p.1=k then (p.1,d) else p).1=p.1;split <;> rfl
  rw [e3,e4,e]
 ·rw [Qq,Qq,e]; rfl
theorem vG {K:RL} {H:Hp} {k:κ} {w:V} {d:D} (hw:cY K H d w):∀ {kvs:List (κ×V)} {al:List (κ×D)},kvs.map (·.1)=al.map (·.1)->aZ K H (al.map (·.2)) (kvs.map (·.2)) ->
  aZ K H ((al.map fun p=>if p.1=k then (p.1,d) else p).map (·.2)) ((kvs.map fun p=>if p.1=k then (p.1,w) else p).map (·.2))
 | [],[],_,h=>h
 | p::r,q::r',e,h=>by
  rw [Pq,Pq] at e;injection e with e1 e2;rw [Pq,Pq,bB] at h;obtain⟨v,ws,h0,h1,h2⟩:=h;injection h0 with h0 h0';subst h0 h0';have ih:=vG (k:=k) hw e2 h2;rw [Pq,Pq,Pq,Pq,bB];refine⟨_,_,rfl,?_,ih⟩;rw [e1];split
  ·exact hw
  ·exact h1
 | [],_::_,e,_=>by cases e
 | _::_,[],e,_=>by cases e
theorem ED {K:RL} {H:Hp} {k:κ} {w:V} {d:D} (hw:cY K H d w) {kvs:List (κ×V)} {al:List (κ×D)} (e:kvs.map (·.1)=al.map (·.1)) (h:aZ K H (al.map (·.2)) (kvs.map (·.2))) :
  aZ K H ((rK al k d).map (·.2)) ((putK kvs k w).map (·.2)):=by
 have e2:(kvs.any fun p=>decide (p.1=k))=(al.any fun p=>decide (p.1=k)):=by
  have:=congrArg (fun l=>l.any fun q=>decide (q=k)) e
  simpa [QN,Function.comp_def] using this
 unfold putK rK;rw [e2];split
 ·exact vG hw e h
 ·rw [Qq,Qq];exact h.append (bB.mpr ⟨w,[],rfl,hw,cZ.mpr rfl⟩)
end
def vp (ks ds:List D) (k v:D):Option (List (Key×D)):=(qY ks ds).bind fun al=>(keyOf k).bind fun k=>if small al.length then some (rK al k v) else none
def pF (i:Nat) (fk fv:FX):cw:=fun k ρ=>match ρ[i]? with
 | some (some (.own (.dct ks ds)))=>uA ((fv ρ).bind fun v=>(fk ρ).bind fun q=>rO (vp ks ds q v)) k ρ fun al=>k.nx (ρ.set i (some (.own (xU al))))
 | _=>un
theorem Au {ks ds:List D} {k v:D} {al':List (Key×D)} (h:vp ks ds k v=some al'):∃ al q,ks=iG al/\ds=al.map (·.2)/\k=bz q/\small al.length=true/\al'=rK al q v:=by
 unfold vp at h;cases e1:qY ks ds with
 | none=>rw [e1] at h; cases h
 | some al =>
  rw [e1] at h;cases e2:keyOf k with
  | none=>rw [e2] at h; cases h
  | some q =>
   rw [e2] at h;obtain⟨h3,h4⟩:=bH (show (if small al.length then some (rK al q v) else none)=some al' from h);obtain⟨h1,h2⟩:=zg e1;exact⟨al,q,h1,h2,sZ e2,h3,h4.symm⟩
theorem GL {kvs:List (Key×V)} {al:List (Key×D)} (e:kvs.map (·.1)=al.map (·.1)):iG al=kvs.map fun p=>bz p.1:=by
 have:=congrArg (List.map bz) e
 rw [Q0,Q0] at this;exact this.symm
def Jt (td ty tv:TE):TS:=fun D σ H=>tv σ H fun v H1=>td σ H1 fun x H2=>ty σ H2 fun y H3=>∃ a k kvs,x=.ref a/\y=kV k/\(H3 a=some (.dK kvs)\/(H3 a=some (.dT [])/\kvs=[]))/\kvs.length < S6/\D.nx σ (upd H3 a (.dK (putK kvs k v)))
section
variable {X:Cx} {o idx value:Tf} {pos pos':Pos} {td ty tv:TE}
theorem EY (hu:X.A.units+1 < TJ) (ho:PE X o td) (hi:PE X idx ty) (hv:PE X value tv) (hs:swapsWith value (some (.Subscript o idx pos')) pos.line X.env=pure false):PS X (.Assign [.Subscript o idx pos'] value pos) (Jt td ty tv):=by
 intro pins s σ H D I h;refine wpAny_Assign_Subscript (eZ (hv pins s σ H _ I h) fun r s1 ⟨v,H1,I1,rv,q1⟩=>eZ (ho pins s1 σ H1 _ I1 q1) fun u s2 ⟨x,H2,I2,rx,q2⟩=>eZ (hi pins s2 σ H2 _ I2 q2) fun iv s3 ⟨y,H3,I3,ry,a,k,kvs,ex,ey,ha,hl,q3⟩=>?_) hs;subst ex ey;obtain rfl:u=Value.ref a:=rx;rcases ha with ha | ⟨ha,rfl⟩
 ·exact oq hu I3 (JE.k ha hl) ry rv fun s4 I4=>⟨σ,_,I4,q3⟩
 ·refine oq hu (KR I3 ha) (JE.k aQ hl) ry rv fun s4 I4=>⟨σ,_,I4,?_⟩
  rw [sP]; exact q3
end
theorem Mj {X:Cx} {i:Nat} {x:Str} {idx value:Tf} {fk fv:FX} {npos tpos pos:Pos} (hu:X.A.units+64 < TJ) (hx:PE X (.Name x npos) (ux i)) (hi:FE X idx fk) (hv:FE X value fv)
  (hs:swapsWith value (some (.Subscript (.Name x npos) idx tpos)) pos.line X.env=pure false:=by rfl) :
  FS X (.Assign [.Subscript (.Name x npos) idx tpos] value pos) (pF i fk fv):=fun Hb Ob pins s σ H E I ⟨O,ρ,k,rr,S,hF,hk⟩=>by
 unfold pF at hF;split at hF
 ·rename_i ks ds hxs;obtain⟨a,ha,haO,hat⟩:=S.env.own i _ hxs;have hP:=jw.on hF hk S (Q:=fun al=>k.nx (ρ.set i (some (.own (xU al))))=rr) fun p e=>e;refine EY ‹0› hx hi hv hs pins s σ H E I ⟨O,ρ,S.env,(jw.bind hP).imp fun y hP v H1 s1 d1=>?_⟩;have S1:=S.same s1;refine⟨.ref a,ha,O,ρ,S1.env,((jw.bind hP).mono s1).imp fun j hP w H2 s2 d2=>?_⟩;have S2:=S1.same s2;obtain⟨al',hg,e⟩:=jw.rO hP;obtain⟨al,q,f1,f2,f3,f4,f5⟩:=Au hg;subst f1 f2 f3 f5;have s12:=s1.trans s2;have hat2:dW X.K H2 O a (xU al):=hat.mono (let ⟨_,z⟩:=hat.some; rQ s12 z) (cf s12);have dv:cY X.K (hid H2 O) y v:=d1.mono (cf s2);have fin:∀ kvs:List (Key×V),kvs.map (·.1)=al.map (·.1)->aZ X.K (hid H2 O) (al.map (·.2)) (kvs.map (·.2))->dW X.K (upd H2 a (.dK (putK kvs q v))) O a (xU (rK al q y)):=fun kvs k2 k3 =>
   ⟨_,_,aQ,(ED dv k2 k3).mono (iw haO),.inl ⟨putK kvs q v,rfl,GL (CF k2 q v y),rfl⟩⟩
  rcases M2 hat2 with ⟨kvs,k1,k2,k3⟩ | ⟨k1,rfl⟩
  ·have hl:kvs.length=al.length:=(by have:=congrArg List.length k2; simpa using this);exact⟨a,q,kvs,rfl,sY d2,.inl k1,by rw [hl]; exact Qw (of_decide_eq_true f4) (by decide),hk.nx O _ σ _ (S2.setO hxs ha trivial (fin kvs k2 k3)) e⟩
  ·exact⟨a,q,[],rfl,sY d2,.inr ⟨k1,rfl⟩,by decide,hk.nx O _ σ _ (S2.setO hxs ha trivial (fin [] rfl (cZ.mpr rfl))) e⟩
 ·exact absurd hF.symm hk.ne
section
variable {X:Cx}
theorem KD {pins:List (S3×Obj)} {σ:St} {H:Hp} {s:Tc} {O:List S3} {ks ds:List D} {v:V} {qs:List Key} (I:Inv X pins σ H s) (h:cY X.K (hid H O) (.dct ks ds) v) (hk:keysOf ks=some qs) :
  ∃ a vs,v=.ref a/\qs.length<=S6/\(a==sysModules)=false/\s.heap.DictOf (cn X.prog X.w) a vs/\vs.map (·.1)=qs:=by
 obtain⟨a,vs,e,_,h2⟩:=L7.mp h;have ek:=nz hk;rcases h2 with ⟨kvs,h3,h4,_⟩ | ⟨kvs,h3,h4,_⟩ | ⟨kvs,o,h3,h4,_⟩
 rotate_left 2
 ·rw [h4] at hk; cases hk
 ·obtain⟨z,hd,us,rel,dd⟩:=HH I.hok ((aB H O) _ _ h3);have e1:kvs.map (·.1)=qs:=by
   have:(kvs.map (·.1)).map bz=qs.map bz:=(by rw [Q0,<- ek,h4]; rfl);have e2:=congrArg keysOf this;rw [cR,cR] at e2;exact Option.some.inj e2
  refine⟨a,us,e,?_,hd,dd,?_⟩
  ·have:=congrArg List.length e1
   rw [Pr] at this;omega
  ·rw [<- rel.keys,e1]
 ·cases kvs with
  | nil =>
   rw [h4] at hk;cases hk;obtain⟨z,hd,us,rel,dd⟩:=(show cK X.prog X.w H s.heap a (.dK []) from yA (I.hok a _ ((aB H O) _ _ h3)))
   refine⟨a,us,e,Pu _,hd,dd,?_⟩;rw [<- rel.keys]; rfl
  | cons p r =>
   rw [h4] at hk;cases hk
def wa:List D->Option D
 | [.dct ks _]=>(keysOf ks).bind fun qs=>some (.int qs.length)
 | _=>none
theorem BM:eA X (.builtin "len") (xP X.K wa):=by
 intro pins s σ H xs us Q I r ⟨O,ds,d,hO,hd,hg,q⟩;unfold wa at hg;split at hg
 ·rename_i ks vs0;cases hk:keysOf ks with
  | none=>rw [hk] at hg; cases hg
  | some qs =>
   rw [hk] at hg;cases hg;obtain⟨v,ev,h1⟩:=hd.one;obtain⟨a,vs,e,z,hs,dd,e1⟩:=KD I h1 hk;subst ev e;obtain⟨u,rfl,ru⟩:=vals1 r;cases ru;have hl:vs.length=qs.length:=(by have:=congrArg List.length e1; simpa using this);refine call_len_dict hs dd (by rw [Tx] at z; omega) ?_;rw [hl];exact⟨.int qs.length,H,I.tok _,⟨_,rfl⟩,q _ H (bn.refl H) (fW.mpr rfl)⟩
 ·cases hg
theorem Ce {k:Key} {v:SY} (h:qZ k v=true):RelV (kV k) v:=by
 rcases dB h with ⟨i,t,rfl,rfl⟩ | ⟨x,t,rfl,rfl⟩
 ·exact⟨_,rfl⟩
 ·exact⟨_,rfl⟩
theorem v8 {P:S0} {w:SZ}:∀ {vs:List (Key×SY)} {its:List SY},its.length=vs.length->(∀ (j:Nat) (v:SY),its[j]?=some v->∃ (k:Key) (x:SY),vs[j]?=some (k,x)/\(cn P w).is k v=true)->Vals (vs.map fun p=>kV p.1) its
 | [],[],_,_=>.nil
 | p::r,u::us,hl,h=>by
  obtain⟨k,x,e,hk⟩:=h 0 u rfl;cases e;exact .cons (Ce (by rw [AC] at hk; exact hk)) (v8 (by simpa using hl) fun j v e=>h (j+1) v (by simpa using e))
 | [],_::_,hl,_=>by cases hl
 | _::_,[],hl,_=>by cases hl
theorem vZ {K:RL} {H:Hp}:∀ qs:List Key,aZ K H (qs.map bz) (qs.map kV)
 | []=>cZ.mpr rfl
 | k::r=>bB.mpr ⟨kV k,_,rfl,by cases k with
  | inl i=>exact fW.mpr rfl
  | inr x=>exact fU.mpr rfl,vZ r⟩
def qG:List D->Option D
 | [.dct ks _]=>(keysOf ks).bind fun _=>some (.lst ks)
 | _=>none
theorem AK (hc:X.calm=true):eA X (.type "list") (xP X.K qG):=by
 intro pins s σ H xs us Q I r ⟨O,ds,d,hO,hd,hg,q⟩;unfold qG at hg;split at hg
 ·rename_i ks vs0;cases hk:keysOf ks with
  | none=>rw [hk] at hg; cases hg
  | some qs =>
   rw [hk] at hg;cases hg;obtain⟨v,ev,h1⟩:=hd.one;obtain⟨a,vs,e,z,hs,dd,e1⟩:=KD I h1 hk;subst ev e;obtain⟨u,rfl,ru⟩:=vals1 r;cases ru;have hl:vs.length=qs.length:=(by have:=congrArg List.length e1; simpa using this);obtain⟨ep,da⟩:=dd.dictAt;refine Sd (PySem.W.kdl_dict hs) (I.ok.hd hc) da ‹0› fun h' tk acc' c' kp e2 it=>?_;have rv:Vals (qs.map kV) acc'.toList:=by
    have:=v8 (P:=X.prog) (w:=X.w) (vs:=vs) (its:=acc'.toList) (by rw [Array.length_toList]; exact it.1) fun j v e=>it.2 j v (by rw [<- Array.getElem?_toList]; exact e)
    rw [<- e1,Q0]; exact this
   refine⟨.ref s.heap.objs.size,_,I.laid (t':=tk) kp (Ph _) (show cK X.prog X.w _ h' _ (.lst (qs.map kV)) from ⟨by rw [Pr]; exact z,acc'.toList,c',rv,by simpa using e2⟩),rfl,?_⟩;have hf:=I.hok.fresh (Ph s.heap.objs.size);refine q _ _ (bF hf _) ?_;rw [nz hk];exact dU hO hf (vZ qs)
 ·cases hg
end
end TG
namespace TG
open PySem PySem.Spec L2
variable [aX]
end TG
namespace TG
open PySem PySem.Spec PySem.Calls L2
variable [aX]
theorem Ck:typeLookup (.type "list") "keys"=pure none:=by rw [typeLookup_type,builtinLookup_eq_fast]; kernel_rfl
theorem GO {prog:S0} {w:SZ} {A:Tb} {E:SY->Tc->Prop} {s:Tc} {a:S3} {o:Obj} {xs:Array SY} {k:Nat} {u:Tok} {Q:SY->Tc->Prop}
  (hx:s.heap.get? a=some o) (hc:o.cls=.type "list") (hdat:o.data=.seq xs k) (hd:o.dict=none) (hA:A.handled=none)
  (h:∀ h' tk e,Heap.NewExcOf s.heap h' e "AttributeError"->E (.ref e) { s with heap:=h',toks:=tk }) :
  Te (model prog w) A (getAttrBy (.ref a) (.str "keys" u) false) Q E s:=by
 obtain⟨c,dct,dat,sl⟩:=o;simp only at hc hdat hd;subst hc hdat hd;obtain⟨hp,g,d,tk,os⟩:=s;have hT:∀ tk',(⟨hp,g,d,tk',os⟩:Tc).TypeIs (.ref a) "list":=fun _=>⟨_,hx,rfl⟩
 have f1:=sub_AttributeError;have f3:=F.slot_list_getattribute.lookup;have f4:=F.slot_list_getattribute.bind (.ref a);have f5:=am_list_getattr_none;unfold getAttrBy
 repeat (any_goals (first | assumption | exact hT _ | ((with_reducible show Te _ _ (call (Value.builtin "list.__getattribute__") _ _) _ _ _); refine call_meets F.slot_list_getattribute (hT _) am_entry_list_getattribute (F.args_list_getattribute_2 _ _) (meets_getattribute_miss_list a xs k sl "keys" _ Ck (by decide +kernel) (by decide +kernel)) ⟨hx,hA,fun h' tk' e hx'=>?_⟩) | wp_step))
 obtain⟨t',u',he⟩:=hx'.there;show Te _ _ (getattributeRaised _ _ _ _ _ _ _) _ _ _;unfold getattributeRaised
 repeat (any_goals (first | assumption | wp_step))
 exact h _ _ _ hx'.of
theorem GC {prog:S0} {w:SZ} {A:Tb} {E:SY->Tc->Prop} {s:Tc} {a:S3} {o:Obj} {xs:Array SY} {k:Nat} {Q:Option SY->Tc->Prop}
  (hx:s.heap.get? a=some o) (hc:o.cls=.type "list") (hdat:o.data=.seq xs k) (hd:o.dict=none) (hA:A.handled=none)
  (h:∀ h' tk,(∀ b o,s.heap.get? b=some o->h'.get? b=some o)->Q none { s with heap:=h',toks:=tk }) :
  Te (model prog w) A (getAttr? (.ref a) "keys") Q E s:=by
 obtain⟨hp,g,d,tk,os⟩:=s;have f1:=sub_AttributeError;unfold getAttr? getAttrBy?;refine Tp (wpAny_mkText ?_);refine Tp (Uw (GO (s:=⟨hp,g,d,tk+1,os⟩) hx hc hdat hd hA fun h' tk' e ne=>?_));obtain⟨ob,vs,e1,e2,_⟩:=ne.there;refine Tp (Ux (s:=⟨h',g,d,tk',os⟩) ⟨ob,e1,e2⟩ f1 ?_);exact To (h h' tk' ne.keeps)

abbrev Keeps (h0 h:S5):Prop:=∀ b o,h0.get? b=some o->h.get? b=some o
section
variable {prog:S0} {w:SZ} {A:Tb} {E:SY->Tc->Prop} {K:Type} [DecidableEq K] {knd:HeapKind prog w K} {d:S3} {h0:S5}
def DI (knd:HeapKind prog w K) (h0:S5) (d:S3) (h:S5) (xs:List (K×S3×SY)):Prop :=
 (∃ o es ep,h.get? d=some o/\o.ExactDict/\o.data=.dict es ep/\es.toList=xs.map (entryOfKey knd)/\(xs.map (·.1)).Nodup)/\∀ x∈xs,∀ h,Keeps h0 h->knd.is h x.1 x.2.1
theorem DI.dict {h:S5} {xs:List (K×S3×SY)} (x:DI knd h0 d h xs) (k:Keeps h0 h):h.DictOfH knd d xs:=by
 obtain⟨⟨o,es,ep,h1,h2,h3,h4,h5⟩,h6⟩:=x;exact⟨o,es,ep,h1,h2,h3,h4,fun y hy=>h6 y hy h k,h5⟩
theorem DI.stay {h h':S5} {xs:List (K×S3×SY)} (x:DI knd h0 d h xs) (k:∀ o,h.get? d=some o->h'.get? d=some o):DI knd h0 d h' xs:=by
 obtain⟨⟨o,es,ep,h1,r⟩,h6⟩:=x;exact⟨⟨o,es,ep,k o h1,r⟩,h6⟩
theorem mem_storedH {xs:List (K×S3×SY)} {k:K} {a:S3} {v:SY} {x:K×S3×SY} (h:x∈storedH xs k a v):(∃ y∈xs,y.1=x.1/\y.2.1=x.2.1)\/(x.1=k/\x.2.1=a):=by
 unfold storedH at h;split at h
 ·obtain⟨y,hy,rfl⟩:=List.mem_map.mp h;refine .inl ⟨y,hy,?_⟩;unfold putAt;split <;> exact⟨rfl,rfl⟩
 ·rcases List.mem_append.mp h with z | z
  ·exact .inl ⟨x,z,rfl,rfl⟩
  ·rw [Q5] at z;subst z; exact .inr ⟨rfl,rfl⟩
theorem DI.put {h h':S5} {xs:List (K×S3×SY)} {k:K} {a:S3} {v:SY} (x:DI knd h0 d h xs) (hk:∀ h,Keeps h0 h->knd.is h k a) (dd:h'.DictOfH knd d (storedH xs k a v)):DI knd h0 d h' (storedH xs k a v):=by
 obtain⟨o,es,ep,h1,h2,h3,h4,_,h5⟩:=dd;refine⟨⟨o,es,ep,h1,h2,h3,h4,h5⟩,fun y hy g kg=>?_⟩;rcases mem_storedH hy with ⟨z,hz,e1,e2⟩ | ⟨e1,e2⟩
 ·rw [<- e1,<- e2]; exact x.2 z hz g kg
 ·rw [e1,e2]; exact hk g kg
theorem zf (xs:List (K×S3×SY)) (k:K) (a:S3) (v:SY):(storedH xs k a v).length<=xs.length+1:=by
 unfold storedH;split
 ·rw [Pr]; omega
 ·simp
theorem y4:entryFor table "dict.update.loop"=some Builtin.«dict.update.loop»:=entryFor_of_tree (by kernel_rfl)
theorem pL:plainId "dict.update.loop"=true:=by decide +kernel
theorem C1 {R:Result->Tc->Prop} {I:S3} {fp wr:List S3} {P:Nat->SY->Prop} {St:Nat->S5->Prop} {L:List (K×S3×SY)} (W:Walks prog w A.in1 I fp wr L.length P St) (hwr:∀ b∈wr,h0.get? b=none) (hdn:h0.get? d=none) (hdf:d∉fp)
  (hn:L.length<=S6) (hu:knd.room A.in1) (hP:∀ i v,P i v->∃ x t,L[i]?=some x/\v=.ref t/\∀ h,Keeps h0 h->h.IsTuple t #[.ref x.2.1,x.2.2]) (hK:∀ x∈L,∀ h,Keeps h0 h->knd.is h x.1 x.2.1) (res:SY) :
  ∀ (m i:Nat) (s:Tc) (xs:List (K×S3×SY)) (j:Int) (u:Tok),i+m=L.length->St i s.heap->Keeps h0 s.heap->DI knd h0 d s.heap xs->xs.length<=i ->
  (∀ h' tk,Keeps h0 h'->DI knd h0 d h' ((L.drop i).foldl (fun xs x=>storedH xs x.1 x.2.1 x.2.2) xs)->R (.ok (.ret res)) { s with heap:=h',toks:=tk }) ->
  Tz (model prog w) A (.builtin "dict.update.loop" ⟨[.ref d,.ref I,.int j u,res],[]⟩) R s:=by
 have hdw:d∉wr:=fun h=>hdf (W.sub _ h);intro m
 induction m with
 | zero =>
  intro i s xs j u hi st kp di hl hR;have hin:i=L.length:=by omega
  subst hin;refine codeAny_builtin y4 ?_;rw [Around.under_plainId pL _];show Te _ A.in1 (pyNext (.ref I) >>= _) _ _ s;refine Tp (W.done s _ _ st fun h' tk hk=>?_);refine Tp (To (To ?_))
  have:=hR h' tk (fun b o q=>hk b o (fun z=>by have:=hwr b z; rw [q] at this; cases this) (kp b o q)) (by
   rw [Qy,List.foldl_nil];exact di.stay fun o q=>hk d o hdw q)
  exact this
 | succ m ih =>
  intro i s xs j u hi st kp di hl hR;refine codeAny_builtin y4 ?_;rw [Around.under_plainId pL _];show Te _ A.in1 (pyNext (.ref I) >>= _) _ _ s;refine Tp (W.item i s _ _ ‹0› st fun v h' tk hv st' hk=>?_);obtain⟨x,t,hx,rfl,ht⟩:=hP i v hv;have kp':Keeps h0 h':=fun b o q=>hk b o (fun z=>by have:=hwr b z; rw [q] at this; cases this) (kp b o q);obtain⟨o,ho,hc,n,hd⟩:=ht h' kp';have xm:x∈L:=PJ hx;refine Tp (T5 (Tp (wpAny_tryCatch ?_)));unfold Builtin.Dict.pairItems;refine Tp (T8 (T := "tuple") ⟨o,ho,hc⟩ ?_);rw [if_pos (by decide)];refine Tp (Uk ho hd (To ?_));show Te _ _ (holding [.ref x.2.1,x.2.2] (dictSet d (.ref x.2.1) x.2.2)) _ _ _;have di':DI knd h0 d h' xs:=di.stay fun o q=>hk d o hdw q;refine T5 (wpAny_dictSet_heap (s:={ s with heap:=h',toks:=tk }) (hsz:=by omega) hu (hK x xm h' kp') (di'.dict kp') fun h2 dd sb=>?_);have kp2:Keeps h0 h2:=fun b o q=>(sb.2 b (fun z=>by rw [z,hdn] at q; cases q)).trans (kp' b o q);refine To ⟨plainId_quiet pL _,?_⟩;refine ih (i+1) _ (storedH xs x.1 x.2.1 x.2.2) (j+1) 0 ‹0› (W.frame _ _ _ st' fun b hb o q=>(sb.2 b (fun z=>hdf (by rw [<- z]; exact hb))).trans q) kp2 (di'.put (hK x xm) dd) (by have:=zf xs x.1 x.2.1 x.2.2; omega) fun h3 tk3 kp3 di3=>?_;refine hR h3 tk3 kp3 ?_;have e:L.drop i=x::L.drop (i+1):=by
   have hil:i < L.length:=(by omega);rw [Qv hil];rw [Qj hil] at hx;rw [Option.some.inj hx]
  rw [e,QQ];exact di3
theorem mC {s:Tc} {Q:SY->Tc->Prop} {l:S3} {o:Obj} {items:Array SY} {n:Nat} {L:List (K×S3×SY)} (ho:s.heap.get? l=some o) (hc:o.cls=.type "list") (hd:o.data=.seq items n) (hdd:o.dict=none) (hh:A.handled=none) (hu:knd.room A.in1.in1)
  (hl:items.size=L.length) (hn:L.length<=S6) (hP:∀ (i:Nat) v,items[i]?=some v->∃ x t,L[i]?=some x/\v=.ref t/\s.heap.IsTuple t #[.ref x.2.1,x.2.2]) (hK:∀ x∈L,∀ h,Keeps s.heap h->knd.is h x.1 x.2.1)
  (hQ:∀ h' tk,Keeps s.heap h'->DI knd s.heap s.heap.objs.size h' (L.foldl (fun xs x=>storedH xs x.1 x.2.1 x.2.2) [])->Q (.ref s.heap.objs.size) { s with heap:=h',toks:=tk }) :
  Te (model prog w) A (call (.type "dict") [.ref l]) Q E s:=by
 refine callType_codes (Q₁:=fun obj s₁=>obj=.ref s.heap.objs.size/\s₁={ s with heap:=s.heap.push { cls:=.type "dict",data:=.dict #[] } }) F.kt_called_dict (F.kt_typeCall_dict_1 _) F.entry_dict_init (kt_code_dict_new _ ⟨rfl,rfl⟩) ?_;rintro obj s₁ ⟨rfl,rfl⟩;have hnew:(s.heap.push { cls:=.type "dict",data:=.dict #[] }).DictOfH knd s.heap.objs.size []:=Heap.DictOfH.new s.heap;have hlt:=Si ho;have hl1:(s.heap.push { cls:=.type "dict",data:=.dict #[] }).get? l=some o:=Sn _ ho;refine⟨hnew.typeIs,F.args_dict_init_2 _ _,?_⟩;unfold Builtin.«dict.__init__»;refine Tp ?_;unfold Builtin.Dict.selfAndRest;refine Tp (UI hnew.typeIs ?_);show Te _ _ (pure (s.heap.objs.size,[Value.ref l])) _ _ _;refine To ?_;show Te _ _ (Builtin.Dict.updateFrom "dict.__init__" s.heap.objs.size (.ref l) [] .none) _ _ _;unfold Builtin.Dict.updateFrom;refine Tp (T8 (T := "list") ⟨o,hl1,hc⟩ ?_);rw [if_pos (by decide)];refine Tp (GC hl1 hc hd hdd hh fun h1 tk1 k1=>?_);rw [if_pos (show (none:Option SY).isNone=true from rfl)];refine Tp (Uh ?_);have hd1:h1.get? s.heap.objs.size=some { cls:=.type "dict",data:=.dict #[] }:=k1 _ _ (Sq _ rfl);have hl2:h1.IsList l items:=⟨o,k1 _ _ hl1,hc,n,hd⟩
 have dlt:=Si hd1;refine Tp (Tq (s:={ s with heap:=h1,toks:=tk1 }) hl2 ?_);refine To ⟨plainId_quiet pL _,?_⟩;have W:=Walks.list (prog:=prog) (w:=w) (A:=A.in1.in1) hh h1.objs.size l (O1 (P5 hlt dlt)) items;rw [hl] at W;refine C1 (A:=A.in1) (knd:=knd) (h0:=s.heap) (d:=s.heap.objs.size) W (fun b hb=>?_) (Sj (Ph _)) (fun z=>?_) hn hu (fun i v hv=>?_) hK .none L.length 0 _ [] 0 0 ‹0› ?_ (fun b o q=>?_) ⟨⟨_,#[],0,Sn _ hd1,⟨rfl,rfl,rfl⟩,rfl,rfl,P6⟩,fun x hx=>by simp at hx⟩ (Ph _) fun h' tk kp di=>?_
 ·rw [Q5] at hb;subst hb;exact Sj (O3 dlt)
 ·simp only [Qz,QA,or_false] at z;rcases z with z | z
  ·exact absurd z (O1 dlt)
  ·exact absurd z.symm (O1 hlt)
 ·obtain⟨x,t,e1,e2,e3⟩:=hP i v hv;obtain⟨ob,q1,q2⟩:=e3;exact⟨x,t,e1,e2,fun h kh=>⟨ob,kh _ _ q1,q2⟩⟩
 ·exact⟨⟨_,Sq _ rfl,rfl,rfl⟩,let ⟨ob,q1,q2⟩:=hl2; ⟨ob,Sn _ q1,q2⟩⟩
 ·exact Sn _ (k1 _ _ (Sn _ q))
 ·exact⟨rfl,hQ h' tk kp di⟩
end
def yu:D->Option (List Key×D)
 | .tup [k,v]=>(jH k).map fun q=>(q,v)
 | _=>none
def iR:List D->Option (List (List Key×D))
 | []=>some []
 | d::r=>(yu d).bind fun p=>(iR r).map (p::·)
def vJ (ps:List (List Key×D)):List (List Key×D):=ps.foldl (fun al p=>ib al p.1 p.2) []
def wL:List D->Option D
 | [.lst xs]=>(iR xs).bind fun ps=>if small ps.length then some (dh (vJ ps)) else none
 | _=>none
theorem DL {d:D} {p:List Key×D} (h:yu d=some p):d=.tup [.tup (p.1.map bz),p.2]:=by
 unfold yu at h;split at h
 ·rename_i k v;cases e:jH k with
  | none=>rw [e] at h; cases h
  | some q=>rw [e] at h; cases h; rw [oj e]
 ·cases h
theorem qI:∀ {xs:List D} {ps:List (List Key×D)},iR xs=some ps->xs=ps.map fun p=>.tup [.tup (p.1.map bz),p.2]
 | [],_,h=>by cases h; rfl
 | d::r,ps,h=>by
  unfold iR at h;cases e1:yu d with
  | none=>rw [e1] at h; cases h
  | some p =>
   rw [e1] at h;cases e2:iR r with
   | none=>rw [e2] at h; cases h
   | some ps'=>rw [e2] at h; cases h; rw [DL e1,qI e2]; rfl
section
variable {X:Cx}
theorem qN {pins:List (S3×Obj)} {σ:St} {H:Hp} {s:Tc} {O:List S3} (I:L2.Inv X pins σ H s):∀ {ps:List (List Key×D)} {ws:List V} {its:List SY},aZ X.K (hid H O) (ps.map fun p=>.tup [.tup (p.1.map bz),p.2]) ws->Vals ws its ->
  ∃ (L:List (List Key×S3×SY)) (ks:List (List Key×V)),its.length=L.length/\(∀ (i:Nat) (v:SY),its[i]?=some v->∃ (x:List Key×S3×SY) (t:S3),L[i]?=some x/\v=.ref t/\s.heap.IsTuple t #[.ref x.2.1,x.2.2])/\KT H ks L/\ks.map (·.1)=ps.map (·.1)/\aZ X.K (hid H O) (ps.map (·.2)) (ks.map (·.2))
 | [],ws,its,h,r=>by
  rw [PX,cZ] at h;subst h;cases r;exact⟨[],[],rfl,(fun i v e=>by simp at e),.nil,rfl,cZ.mpr rfl⟩
 | p::ps,ws,its,h,r=>by
  rw [Pq,bB] at h;obtain⟨w,ws',rfl,h1,h2⟩:=h;cases r with
  | @cons _ u _ us ru rr =>
   obtain⟨L,ks,l1,l2,l3,l4,l5⟩:=qN I h2 rr;obtain⟨t,vs,rfl,t1,t2⟩:=cJ.mp h1;obtain⟨v1,v2,rfl,d1,d2⟩:=t2.two;obtain⟨a,ks1,rfl,a1,a2⟩:=cJ.mp d1;rw [jp a2] at a1;obtain⟨its',r',⟨o,q1,q2⟩,_⟩:=I.tuple (bY (K:=X.K) (aB H O) t1);obtain⟨x1,x2,rfl,rx1,rx2⟩:=vals2 r';cases rx1;obtain rfl:u=Value.ref t:=ru;refine⟨(p.1,a,x2)::L,(p.1,v2)::ks,by rw [Pp,Pp,l1],fun i v e=>?_,.cons ⟨rfl,(aB H O) _ _ a1,rx2⟩ l3,by rw [Pq,Pq,l4],bB.mpr ⟨v2,_,rfl,d2,l5⟩⟩;cases i with
   | zero =>
    have e:Value.ref t=v:=(by simpa using e);subst e;exact⟨_,t,rfl,rfl,o,q1,q2⟩
   | succ i=>exact l2 i v (by simpa using e)
theorem uh {K:RL} {H:Hp} {H0:Hp}:∀ {ps:List (List Key×D)} {ks:List (List Key×V)} {L:List (List Key×S3×SY)} {al:List (List Key×D)} {kvs:List (List Key×V)} {xs:List (List Key×S3×SY)},KT H ks L->ks.map (·.1)=ps.map (·.1)->aZ K H0 (ps.map (·.2)) (ks.map (·.2)) ->
  KT H kvs xs->kvs.map (·.1)=al.map (·.1)->aZ K H0 (al.map (·.2)) (kvs.map (·.2)) ->
  KT H (ks.foldl (fun m p=>putK m p.1 p.2) kvs) (L.foldl (fun xs x=>storedH xs x.1 x.2.1 x.2.2) xs)/\(ks.foldl (fun m p=>putK m p.1 p.2) kvs).map (·.1)=(ps.foldl (fun al p=>ib al p.1 p.2) al).map (·.1) /\
   aZ K H0 ((ps.foldl (fun al p=>ib al p.1 p.2) al).map (·.2)) ((ks.foldl (fun m p=>putK m p.1 p.2) kvs).map (·.2))/\(ks.foldl (fun m p=>putK m p.1 p.2) kvs).length<=kvs.length+ks.length
 | [],[],_,al,kvs,xs,.nil,_,_,h1,h2,h3=>⟨h1,h2,h3,by simp⟩
 | p::ps,q::ks,_,al,kvs,xs,.cons (b:=x) hq hr,e,d,h1,h2,h3=>by
  rw [Pq,Pq] at e;injection e with e1 e2;rw [Pq,Pq,bB] at d;obtain⟨v,vs,d0,d1,d2⟩:=d;injection d0 with d0 d0';subst d0 d0';obtain⟨y1,y2,y3⟩:=hq;have z1:=KT.put h1 q.1 y2 y3;rw [y1] at z1;have z2:=x3 h2 q.1 q.2 p.2;have z3:=Bj (k:=q.1) d1 h2 h3
  have:=uh (kvs:=putK kvs q.1 q.2) (al:=ib al q.1 p.2) (xs:=storedH xs x.1 x.2.1 x.2.2) hr e2 d2 (by rw [y1]; exact z1) z2 z3
  rw [QQ,QQ,QQ,<- e1];refine⟨this.1,this.2.1,this.2.2.1,O2 this.2.2.2 ?_⟩
  have:=jQ kvs q.1 q.2
  rw [Pp]; omega
 | [],_::_,_,_,_,_,_,e,_,_,_,_=>by cases e
 | _::_,[],_,_,_,_,_,e,_,_,_,_=>by cases e
theorem zF (hc:X.calm=true) (hu:X.A.units+64 < TJ):eA X (.type "dict") (xP X.K wL):=by
 intro pins s σ H xs us Q I r ⟨O,ds,d,hO,hd,hg,q⟩;unfold wL at hg;split at hg
 ·rename_i ys;cases hp:iR ys with
  | none=>rw [hp] at hg; cases hg
  | some ps =>
   rw [hp] at hg;obtain⟨sm,rfl⟩:=bH (show (if small ps.length then some (dh (vJ ps)) else none)=some d from hg);obtain⟨v,rfl,h1⟩:=hd.one;obtain⟨p,ws,rfl,g1,g2⟩:=cI.mp h1;obtain⟨u,rfl,ru⟩:=vals1 r;cases ru;obtain⟨its,rv,⟨o,n,ho,hcl,hd',hdd⟩,hz⟩:=I.list ((aB H O).seq g1);rw [qI hp] at g2;obtain⟨L,ks,l1,l2,l3,l4,l5⟩:=qN I g2 rv;have kl:ks.length=ps.length:=(by have:=congrArg List.length l4; simpa using this);have ll:ks.length=L.length:=Paired.length l3;have key:∀ {ks:List (List Key×V)} {L:List (List Key×S3×SY)},KT H ks L->∀ x∈L,∀ h,Keeps s.heap h->(tupleKind (cn X.prog X.w)).is h x.1 x.2.1:=fun {ks L} kt=>by
    induction kt with
    | nil=>intro x hx; cases hx
    | cons hq _ ih =>
     intro x hx h kh;rcases List.mem_cons.mp hx with z | z
     ·subst z;obtain⟨e1,e2,_⟩:=hq;rw [e1] at e2;obtain⟨o,xs,n,k1,k2⟩:=oR I.hok e2;exact⟨o,xs,n,kh _ _ k1,k2⟩
     ·exact ih x z h kh
   obtain⟨f1,f2,f3,f4⟩:=uh (K:=X.K) (H:=H) (H0:=hid H O) (al:=[]) (kvs:=[]) (xs:=[]) l3 l4 l5 .nil rfl (cZ.mpr rfl);have hsz:ps.length<=100000:=of_decide_eq_true sm;have sl:S6=16777216:=Tx;refine mC (knd:=tupleKind (cn X.prog X.w)) (L:=L) ho hcl hdd hd' (I.ok.hd hc) (Ud (by rw [in1_units]; omega)) (by simpa using l1) ‹0› (fun i v e=>l2 i v (by simpa using e)) (key l3) fun h' tk kp di=>?_;have hf:=I.hok.fresh (Ph s.heap.objs.size);obtain⟨⟨od,es,ep,k1,k2,k3,k4,k5⟩,_⟩:=di;have kt':KT (upd H s.heap.objs.size (.dT (ks.foldl (fun m p=>putK m p.1 p.2) []))) (ks.foldl (fun m p=>putK m p.1 p.2) []) (L.foldl (fun xs x=>storedH xs x.1 x.2.1 x.2.2) []):=KT.keeps f1 fun b ys eb=>by rw [aE (fun z=>by rw [z,hf] at eb; cases eb)]; exact eb
   refine⟨.ref s.heap.objs.size,_,I.laid (t':=tk) kp (Ph _) (show cK X.prog X.w _ h' _ (.dT (ks.foldl (fun m p=>putK m p.1 p.2) [])) from ⟨by simp only [P0] at f4; omega,beq_eq_false_iff_ne.mpr (Ne.symm (O1 I.big)),_,kt',od,es,ep,k1,k2,k3,k4,k5⟩),rfl,?_⟩;refine q _ _ (bF hf _) ?_;have pO:=hO.not hf;refine L7.mpr ⟨s.heap.objs.size,_,rfl,f3.mono (se hf),.inr (.inl ⟨_,by rw [jV pO]; exact aQ,ue f2,rfl⟩)⟩
 ·cases hg
end
def qj (al:List (List Key×D)) (q:List Key):Option D:=(al.find? fun p=>decide (p.1=q)).map (·.2)
def KC (ks ds:List D) (k x:D):Option D:=(j9 ks ds).bind fun al=>(jH k).bind fun q=>some ((qj al q).getD x)
def N8 (fo fk fx:FX):FX:=fun ρ=>(fo ρ).bind fun dd=>match dd with
 | .dct ks ds=>(fk ρ).bind fun k=>(fx ρ).bind fun x=>rO (KC ks ds k x)
 | _=>un
theorem zk {K:RL} {H:Hp} {v:V} {al:List (List Key×D)} (h:cY K H (dh al) v) :
  ∃ a,v=.ref a/\((∃ kvs:List (List Key×V),H a=some (.dT kvs)/\kvs.map (·.1)=al.map (·.1)/\aZ K H (al.map (·.2)) (kvs.map (·.2)))\/(H a=some (.dK [])/\al=[])):=by
 obtain⟨a,vs,e0,h2,h3⟩:=L7.mp h;refine⟨a,e0,?_⟩;rcases h3 with ⟨kvs,e,e1,e2⟩ | ⟨kvs,e,e1,e2⟩ | ⟨kvs,o,e,e1,e2⟩
 rotate_left 2
 ·cases al with
  | nil=>cases e1
  | cons _ _=>injection e1 with e1 _; cases e1
 ·cases kvs with
  | nil=>exact .inr ⟨e,by simpa using e1⟩
  | cons p r =>
   cases al with
   | nil=>cases e1
   | cons q r' =>
    have e1:D.tup (q.1.map bz)::encK r'=bz p.1::r.map (fun p=>bz p.1):=e1;injection e1 with e1 _;rcases p with ⟨k,v⟩
    cases k <;> cases e1
 ·refine .inl ⟨kvs,e,?_,by rw [<- e2]; exact h2⟩;exact(mN (ks:=kvs.map (·.1)) (by rw [Q0]; exact e1)).symm
theorem y9 {K:RL} {H:Hp} (q:List Key):∀ {kvs:List (List Key×V)} {al:List (List Key×D)},kvs.map (·.1)=al.map (·.1)->aZ K H (al.map (·.2)) (kvs.map (·.2))->(jB kvs q=none/\qj al q=none)\/∃ v d,jB kvs q=some v/\qj al q=some d/\cY K H d v
 | [],[],_,_=>.inl ⟨rfl,rfl⟩
 | p::r,a::al,e,h=>by
  rw [Pq,Pq] at e;injection e with e1 e2;rw [Pq,Pq,bB] at h;obtain⟨v,ws,h0,h1,h2⟩:=h;injection h0 with h0 h0';subst h0 h0';by_cases z:p.1=q
  ·refine .inr ⟨p.2,a.2,kW z,?_,h1⟩;unfold qj;rw [Q9 (by rw [<- e1]; simpa using z)]; rfl
  ·have ih:=y9 q e2 h2;have g:qj (a::al) q=qj al q:=by
    unfold qj;rw [Ra (by rw [<- e1]; simpa using z)]
   rw [jx z,g];exact ih
 | [],_::_,e,_=>by cases e
 | _::_,[],e,_=>by cases e
def xj (x y:D):Option D:=match y with
 | .dct ks ds=>(vI ks ds x).bind Ff
 | _=>none
section
variable {X:Cx}
theorem BZ (hu:X.A.units+64 < TJ):mr X (Tv .NotIn) (rD X.K xj):=by
 intro pins s σ H x y u v Q I rx ry ⟨O,a,b,d,hO,ha,hb,hg,q⟩;cases b with
 | dct ks ds =>
  have hg:(vI ks ds a).bind Ff=some d:=hg;cases e0:vI ks ds a with
  | none=>rw [e0] at hg; cases hg
  | some d0 =>
  rw [e0] at hg;obtain⟨al,qk,f1,f2,f3,f4⟩:=zu e0;subst f1 f2 f3 f4;cases hg;obtain⟨p,ey,hh⟩:=zk hb;obtain⟨c,ws,ex,g1,g2⟩:=cJ.mp ha;rw [jp g2] at g1;have g1':=(aB H O) _ _ g1;subst ex ey;cases ry;rcases hh with ⟨kvs,k1,k2,k3⟩ | ⟨k1,rfl⟩
  ·have hv:=EG k2 qk;rw [QN] at hv;refine AX ‹0› I (DU.t ((aB H O) _ _ k1) g1') rx fun s3 I3=>⟨.bl (!(jB kvs qk).isSome),H,I3,rfl,q _ H (bn.refl H) (lB.mpr ?_)⟩
   rw [hv]; rfl
  ·have k1':=(aB H O) _ _ k1;have ne:c≠p:=fun z=>by rw [z,k1'] at g1'; cases g1'
   refine AX (o:=jB [] qk) ‹0› (Ds I k1') (DU.t aQ (by rw [aE ne]; exact g1')) rx fun s3 I4=>⟨.bl true,H,?_,rfl,q _ H (bn.refl H) (lB.mpr rfl)⟩
   have I5:=KR I4 aQ;rw [Fl k1'] at I5;exact I5
 | _=>cases hg
end
end TG
namespace TG
open PySem PySem.Spec L2
variable [aX]
end TG
namespace TG
open PySem PySem.Spec L2
variable [aX]
end TG
namespace TG
open PySem PySem.Spec L2
variable [aX]
end TG
namespace TG
open PySem PySem.Spec PySem.Calls L2
section
variable {prog:S0} {w:SZ} {K:Type} [DecidableEq K] {knd:HeapKind prog w K} {A:Tb} {E:SY->Tc->Prop} {s:Tc} {d a:S3} {k:K} {xs:List (K×S3×SY)}
theorem xV {v:SY} {Q:SY->Tc->Prop} (hu:knd.room A) (hkey:knd.is s.heap k a) (hm:s.heap.DictOfH knd d xs) (hsz:xs.length<=S6)
  (h1:∀ p,atKey xs k=some p->Q p.2 { s with toks:=s.toks+knd.draws k })
  (h2:atKey xs k=none->∀ h',h'.DictOfH knd d (storedH xs k a v)->Sl d s.heap h'->Q v { s with heap:=h',toks:=s.toks+knd.draws k }) :
  Te (model prog w) A (dictSetDefault d (.ref a) v) Q E s:=by
 obtain⟨o,es,ep,ho,hc,hd,he,his,hn⟩:=hm;unfold dictSetDefault
 try with_reducible refine T5 ?_
 refine Tp (knd.pyHash hu hkey (Tp (wpAny_dictFind_heap (s:={ s with toks:=s.toks+knd.draws k }) hu hkey ho hd he his hn (fun hno=>?_) fun j p hj=>?_)))
 ·have hnone:=atKey_none_of_get hno;refine Tp (Uh (Tp (wpAny_updateDictKeys (hz:=by have e:=size_of_entries he; omega) (s:={ s with toks:=s.toks+knd.draws k }) ho hd (To (h2 hnone _ ⟨_,_,ep+1,Ss _ ho (Obj.isFreed_of_dict (Obj.data_mapDictKeys hd _)),hc.mapDictKeys _,Obj.data_mapDictKeys hd _,?_,?_,?_⟩ (Heap.SameBut.update ..))))))
  ·rw [storedH_new hnone]; simp [he,entryOfKey]
  ·rw [storedH_new hnone];intro x hx;rcases List.mem_append.mp hx with hx | hx
   ·exact knd.keeps (his x hx) ho hd (Heap.SameBut.update ..)
   ·rw [Q5] at hx; subst hx; exact knd.keeps hkey ho hd (Heap.SameBut.update ..)
  ·rw [storedH_new hnone,Qq,QK];refine⟨hn,by simp,fun x hx y hy=>?_⟩;simp only [Pq,PX,Q5] at hy;subst hy; exact fun e=>not_mem_keys_of_get hno (e ▸ hx)
 ·refine Tp (UJ (s:={ s with toks:=s.toks+knd.draws k }) ho hd ?_);rw [entry_at he j,hj];exact Tp (Uh (To (h1 p (atKey_of_get hn hj))))
theorem zi {v:SY} {Q:SY->Tc->Prop} (hu:knd.room A.in1) (hkey:knd.is s.heap k a) (hm:s.heap.DictOfH knd d xs) (hsm:(d==sysModules)=false) (hsz:xs.length<=S6)
  (h1:∀ p,atKey xs k=some p->Q p.2 { s with toks:=s.toks+knd.draws k })
  (h2:atKey xs k=none->∀ h',h'.DictOfH knd d (storedH xs k a v)->Sl d s.heap h'->Q v { s with heap:=h',toks:=s.toks+knd.draws k }) :
  Te (model prog w) A (call (.builtin "dict.setdefault") [.ref d,.ref a,v]) Q E s:=by
 refine T7 PySem.F.slot_dict_setdefault hm.typeIs PySem.F.entry_dict_setdefault ?_ (PySem.F.args_dict_setdefault_3 _ _ _);unfold Builtin.«dict.setdefault»;refine Tp ?_;unfold Builtin.Dict.keyAndDefault;refine Tp (UI hm.typeIs ?_);show Te _ _ (pure (d,Value.ref a,some v)) _ _ s;refine To ?_;show Te _ _ (if (d==sysModules)=true then _ else (dictSetDefault d (.ref a) v >>= _)) _ _ s;rw [if_neg (by rw [hsm]; exact Pn)];exact Tp (xV hu hkey hm hsz (fun p hp=>To ⟨_,rfl,h1 p hp⟩) fun hn h' hm' hs'=>To ⟨_,rfl,h2 hn h' hm' hs'⟩)
end
theorem Ca {o:Option V} {w:SY} (h:sG o (some w)):∃ v,o=some v/\RelV v w:=by
 cases o with
 | none=>exact h.elim
 | some v=>exact⟨v,rfl,h⟩
theorem CW {o:Option V} (h:sG o none):o=none:=by
 cases o with
 | none=>rfl
 | some v=>exact h.elim
section
variable {X:Cx} {pins:List (S3×Obj)} {σ:St} {H:Hp} {s:Tc} {a b:S3} {v:V} {r:SY} {kvs:List (List Key×V)} {k:List Key} {A:Tb} {E:SY->Tc->Prop}
theorem xZ {Q:SY->Tc->Prop} (hu:A.units+1 < TJ) (I:Inv X pins σ H s) (e:H a=some (.dT kvs)) (eb:H b=some (.tup (k.map kV))) (hl:kvs.length < S6) (rv:RelV v r)
  (h1:∀ v' w' s',jB kvs k=some v'->Inv X pins σ H s'->RelV v' w'->Q w' s') (h2:jB kvs k=none->∀ s',Inv X pins σ (upd H a (.dT (putK kvs k v))) s'->Q r s') :
  Te (model X.prog X.w) A (call (.builtin "dict.setdefault") [.ref a,.ref b,r]) Q E s:=by
 obtain⟨z,hd,xs,rel,dd⟩:=HS I.hok e;have hz:xs.length<=S6:=by rw [<- Paired.length rel]; exact z
 have hl2:(putK kvs k v).length<=S6:=by have:=jQ kvs k v; omega
 have q:=rel.val k;refine zi (Ud hu) (oR I.hok eb) dd hd hz (fun p hp=>?_) fun hn h' dd' hs=>?_
 ·rw [hp] at q;obtain⟨v',ev,rv'⟩:=Ca q;exact h1 v' _ _ ev (I.tok _) rv'
 ·rw [hn] at q;refine h2 (CW q) _ ?_;obtain⟨q,es,ep,hq,g2,g3,g4,_,g5⟩:=dd';refine nq I (by rw [e]; exact True.intro) hs ⟨q,hq⟩ ⟨hl2,hd,_,(rel.put k eb rv).keeps fun c ys ec=>?_,q,es,ep,hq,g2,g3,g4,g5⟩;rw [aE (Fi ec e (fun z=>nomatch z))]; exact ec
end
variable [aX]
def K4:V->List V->Hp->VK->Prop:=fun x vs H Q=>∃ a b k kvs v,x=.ref a/\vs=[.ref b,v]/\H b=some (.tup (k.map kV))/\(H a=some (.dT kvs)\/(H a=some (.dK [])/\kvs=[]))/\kvs.length < S6/\(∀ v',jB kvs k=some v'->Q v' H)/\(jB kvs k=none->Q v (upd H a (.dT (putK kvs k v))))
theorem GR {X:Cx} (hu:X.A.units+64 < TJ):Lf X "dict.setdefault" K4:=by
 intro pins s σ H x vs v us Q I rx rv h;obtain⟨a,b,k,kvs,v',rfl,rfl,hb,ha,hl,h1,h2⟩:=h;cases rx;obtain⟨u1,u,rfl,r1,ru⟩:=rv.two;obtain rfl:u1=Value.ref b:=r1;rcases ha with ha | ⟨ha,rfl⟩
 ·exact xZ ‹0› I ha hb hl ru (fun v1 w1 s1 e I1 r=>⟨v1,H,I1,r,h1 v1 e⟩) fun e s1 I1=>⟨v',_,I1,ru,h2 e⟩
 ·have ne:b≠a:=fun z=>by rw [z,ha] at hb; cases hb
  refine xZ ‹0› (Ds I ha) aQ (by rw [aE ne]; exact hb) hl ru (fun v1 w1 s1 e=>by cases e) fun e s1 I1=>⟨v',_,?_,ru,h2 e⟩
  rw [sP] at I1; exact I1
end TG
namespace TG
open PySem PySem.Spec L2
variable [aX]
theorem fw.setN {K:RL} {Hb:Hp} {Ob O O':List S3} {H H':Hp} {ρ:aq} {σ:St} (S:fw K Hb Ob O H ρ σ) {i:Nat} {d d':D} (hi:ρ[i]?=some (some (.nest d))) (sub:∀ b∈O,b∈O') (s:bn (hid H O) (hid H' O')) (hb:Base Hb Ob H' O') (all:eL H' O')
  (keep:∀ (j:Nat) xs b,ρ[j]?=some (some (.own xs))->σ[j]?=some (some (.ref b))->H b=H' b) (new:Bv K Hb Ob O' H' (ρ.set i (some (.nest d'))) σ i d'):fw K Hb Ob O' H' (ρ.set i (some (.nest d'))) σ:=by
 have own:∀ (j:Nat) xs,(ρ.set i (some (.nest d')))[j]?=some (some (.own xs))->ρ[j]?=some (some (.own xs)):=fun j xs e=>by
  rcases bh e with ⟨_,q⟩ | ⟨_,q⟩
  ·cases q
  ·exact q
 refine⟨⟨fun j d1 e=>?_,fun j xs e=>?_,fun j l xs ys a e1 e2 e3 e4=>S.env.one j l xs ys a (own j xs e1) (own l ys e2) e3 e4,all⟩,hb,fun j xs a e1 e2=>S.mine j xs a (own j xs e1) e2,fun j dn e=>?_⟩
 ·rcases bh e with ⟨_,q⟩ | ⟨_,q⟩
  ·cases q
  ·obtain⟨v,q1,q2⟩:=S.env.val j d1 q;exact⟨v,q1,q2.mono s⟩
 ·obtain⟨a,q1,q2,q3⟩:=S.env.own j xs (own j xs e);exact⟨a,q1,sub a q2,q3.mono (keep j xs a (own j xs e) q1) s⟩
 ·rcases bh e with ⟨hj,q⟩ | ⟨ne,q⟩
  ·cases q; rw [hj]; exact new
  ·obtain⟨_,_,_,_,_,_,one⟩:=S.nst i d hi;exact absurd (one j dn q) ne
def Lh:aq->Bool
 | []=>true
 | some (.nest _)::_=>false
 | _::ρ=>Lh ρ
theorem pE:∀ {ρ:aq},Lh ρ=true->∀ (j:Nat) d,ρ[j]?≠some (some (.nest d))
 | [],_,j,d,e=>by simp at e
 | none::ρ,h,j,d,e=>by
  cases j with
  | zero=>simp at e
  | succ j=>exact pE (ρ:=ρ) h j d (by simpa using e)
 | some (.val _)::ρ,h,j,d,e=>by
  cases j with
  | zero=>simp at e
  | succ j=>exact pE (ρ:=ρ) h j d (by simpa using e)
 | some (.own _)::ρ,h,j,d,e=>by
  cases j with
  | zero=>simp at e
  | succ j=>exact pE (ρ:=ρ) h j d (by simpa using e)
 | some (.nest _)::ρ,h,j,d,e=>by cases h
theorem fw.setNewN {K:RL} {Hb:Hp} {Ob O:List S3} {H H':Hp} {ρ:aq} {σ:St} (E:fw K Hb Ob O H ρ σ) {i:Nat} {p:S3} (hi:i < σ.length) (sm:bn H H') (hp:H p=none) (m:∃ o,H' p=some o/\tx o) (hn:Lh ρ=true) (new:dW K H' (p::O) p (.dct [] [])) :
  fw K Hb Ob (p::O) H' (ρ.set i (some (.nest (.dct [] [])))) (σ.set i (some (.ref p))):=by
 have T:=E.setNew hi sm hp m new;have key:∀ (j:Nat) (x:S),(ρ.set i (some (.nest (.dct [] []))))[j]?=some (some x)->(j=i/\x=.nest (.dct [] []))\/(j≠i/\(ρ.set i (some (.own (.dct [] []))))[j]?=some (some x)):=fun j x e=>by
  rcases bh e with ⟨hj,q⟩ | ⟨ne,q⟩
  ·cases q; exact .inl ⟨hj,rfl⟩
  ·exact .inr ⟨ne,by rw [Pa (Ne.symm ne)]; exact q⟩
 refine⟨⟨fun j d e=>?_,fun j xs e=>?_,fun j l xs ys a e1 e2 e3 e4=>?_,T.env.all⟩,T.base,fun j xs a e1 e2=>?_,fun j dn e=>?_⟩
 ·rcases key j _ e with ⟨_,q⟩ | ⟨_,q⟩
  ·cases q
  ·exact T.env.val j d q
 ·rcases key j _ e with ⟨_,q⟩ | ⟨_,q⟩
  ·cases q
  ·exact T.env.own j xs q
 ·rcases key j _ e1 with ⟨_,q⟩ | ⟨_,q1⟩
  ·cases q
  ·rcases key l _ e2 with ⟨_,q⟩ | ⟨_,q2⟩
   ·cases q
   ·exact T.env.one j l xs ys a q1 q2 e3 e4
 ·rcases key j _ e1 with ⟨_,q⟩ | ⟨_,q⟩
  ·cases q
  ·exact T.mine j xs a q e2
 ·rcases key j _ e with ⟨hj,q⟩ | ⟨ne,q⟩
  ·cases q;subst hj;refine⟨p,[],O9 hi,⟨[],trivial,?_⟩,by simp,fun b hb=>?_,fun l d' w=>?_⟩
   ·obtain⟨o,vs,h1,h2,h3⟩:=new;rcases h3 with ⟨kvs,e1,e2,_⟩ | ⟨kvs,e1,e2,_⟩
    ·have:kvs=[]:=(by cases kvs with | nil=>rfl | cons _ _=>cases e2);subst this e1;exact .inr (.inr ⟨rfl,rfl,h1⟩)
    ·have:kvs=[]:=(by cases kvs with | nil=>rfl | cons _ _=>cases e2);subst this e1;exact .inr (.inl ⟨[],rfl,h1,rfl⟩)
   ·rw [List.mem_singleton.mp hb];refine⟨O6,E.base.same.free hp,fun z=>E.env.all.not hp (E.base.sub p z),fun l d' w z=>?_⟩;rcases key l _ w with ⟨_,q⟩ | ⟨nl,q⟩
    ·cases q
    ·exact nl (T.env.one l j d' (.dct [] []) p q (O9 (by
      have:=(List.getElem?_eq_some_iff.mp e).1
      rw [List.length_set] at this; exact this)) z (O9 hi))
   ·rcases key l _ w with ⟨hl,_⟩ | ⟨nl,q⟩
    ·exact hl
    ·rw [Pa (Ne.symm nl)] at q;exact absurd q (pE hn l d')
  ·rw [Pa (Ne.symm ne)] at q;exact absurd q (pE hn j dn)
def ym (i:Nat):cw:=fun k ρ=>if Lh ρ then k.nx (ρ.set i (some (.nest (.dct [] [])))) else un
section
variable {X:Cx} {pos:Pos}
theorem LJ {i:Nat} {x:Str} {dp pos':Pos} (hN:X.N.Nodup) (hi:X.N[i]?=some x) (hx:Loc X.env.scope x) (hs:swapsWith (.Dict [] [] dp) (some (.Name x pos')) pos.line X.env=pure false:=by rfl) (hf:X.fn x=true\/X.env.scope.names.lookup x=some .local:=by first | exact .inl rfl | exact .inr rfl | assumption) :
  FS X (.Assign [.Name x pos'] (.Dict [] [] dp) pos) (ym i):=fun Hb Ob pins s σ H E I ⟨O,ρ,k,r,S,hF,hk⟩=>by
 unfold ym at hF;cases hn:Lh ρ with
 | false=>rw [hn] at hF; exact absurd hF.symm hk.ne
 | true =>
  rw [hn] at hF;exact As hN hi hx Dt hs hf pins s σ H E I ⟨O,ρ,S.env,fun p H1 s1 hp m o=>hk.nx _ _ _ H1 (S.setNewN (by rw [I.len]; exact(List.getElem?_eq_some_iff.mp hi).1) s1 hp m hn o) hF⟩
end
theorem mK.den {K:RL} {H:Hp} {O O':List S3} (s:bn (hid H O) (hid H O')):∀ {bs:List S3} {xs:List D},mK K H O bs xs->(∀ b∈bs,b∉O')->aZ K (hid H O') xs (bs.map .ref)
 | [],[],_,_=>cZ.mpr rfl
 | b::bs,x::xs,h,n=>bB.mpr ⟨_,_,rfl,h.1.den s (n b O6),mK.den s h.2 fun b' hb=>n b' (O7 _ hb)⟩
 | [],_::_,h,_=>h.elim
 | _::_,[],h,_=>h.elim
end TG
namespace TG
open PySem PySem.Spec L2
variable [aX]
def uC:List (List Key×D)->List Key->D->Option (List (List Key×D))
 | [],q,v=>some [(q,.lst [v])]
 | p::r,q,v=>if p.1=q then (match p.2 with
   | .lst ys=>if small (ys.length+1) then some ((p.1,.lst (ys++[v]))::r) else none
   | _=>none) else (uC r q v).map (p::·)
def yn (ks xs:List D) (k v:D):Option (List (List Key×D)):=(j9 ks xs).bind fun al=>(jH k).bind fun q=>if small al.length then uC al q v else none
theorem CA {ks ds:List D} {k v:D} {al':List (List Key×D)} (h:yn ks ds k v=some al'):∃ al q,ks=encK al/\ds=al.map (·.2)/\k=.tup (q.map bz)/\small al.length=true/\uC al q v=some al':=by
 unfold yn at h;cases e1:j9 ks ds with
 | none=>rw [e1] at h; cases h
 | some al =>
  rw [e1] at h;cases e2:jH k with
  | none=>rw [e2] at h; cases h
  | some q =>
   rw [e2] at h;obtain⟨h3,h4⟩:=vO (show (if small al.length then uC al q v else none)=some al' from h);exact⟨al,q,(i7 e1).1,(i7 e1).2,oj e2,h3,h4⟩
theorem mK.imp {K:RL} {H H':Hp} {O O':List S3}:∀ {bs:List S3} {xs:List D},mK K H O bs xs->(∀ c∈bs,∀ x,dW K H O c x->dW K H' O' c x)->mK K H' O' bs xs
 | [],[],_,_=>trivial
 | b::bs,x::xs,h,f=>⟨f b O6 x h.1,mK.imp h.2 fun c hc=>f c (O7 _ hc)⟩
 | [],_::_,h,_=>h.elim
 | _::_,[],h,_=>h.elim
theorem mK.snoc {K:RL} {H:Hp} {O:List S3} {b:S3} {x:D} (hx:dW K H O b x):∀ {bs:List S3} {xs:List D},mK K H O bs xs->mK K H O (bs++[b]) (xs++[x])
 | [],[],_=>⟨hx,trivial⟩
 | b'::bs,x'::xs,h=>⟨h.1,mK.snoc hx h.2⟩
 | [],_::_,h=>h.elim
 | _::_,[],h=>h.elim
theorem wV {K:RL} {H:Hp} {O:List S3} {q:List Key} {v:D}:∀ {al al':List (List Key×D)} {kvs:List (List Key×V)} {bs:List S3},kvs.map (·.1)=al.map (·.1)->kvs.map (·.2)=bs.map .ref->mK K H O bs (al.map (·.2))->bs.Nodup->uC al q v=some al' ->
  (∃ b ys,jB kvs q=some (.ref b)/\b∈bs/\dW K H O b (.lst ys)/\small (ys.length+1)=true/\al'.map (·.1)=al.map (·.1)/\∀ H' O',(∀ c∈bs,c≠b->∀ x,dW K H O c x->dW K H' O' c x)->dW K H' O' b (.lst (ys++[v]))->mK K H' O' bs (al'.map (·.2))) \/
  (jB kvs q=none/\al'=al++[(q,.lst [v])])
 | [],al',kvs,bs,e1,e2,h,nd,g=>by
  cases kvs with
  | cons _ _=>cases e1
  | nil=>cases g; exact .inr ⟨rfl,rfl⟩
 | p::al,al',kvs,bs,e1,e2,h,nd,g=>by
  cases kvs with
  | nil=>cases e1
  | cons p' kvs =>
   cases bs with
   | nil=>cases e2
   | cons b bs =>
    rw [Pq,Pq] at e1 e2;injection e1 with f1 f2;injection e2 with f3 f4;obtain⟨n1,n2⟩:=List.nodup_cons.mp nd;have h:dW K H O b p.2/\mK K H O bs (al.map (·.2)):=h;unfold uC at g;by_cases eq:p.1=q
    ·rw [if_pos eq] at g;left;split at g
     ·rename_i ys hp;obtain⟨g1,g2⟩:=bH g;subst g2;rw [hp] at h;refine⟨b,ys,by rw [kW (f1.trans eq),f3],O6,h.1,g1,rfl,fun H' O' oth new=>⟨new,h.2.imp fun c hc=>oth c (O7 _ hc) fun z=>n1 (by rw [<- z]; exact hc)⟩⟩
     ·cases g
    ·rw [if_neg eq] at g;cases g2:uC al q v with
     | none=>rw [g2] at g; cases g
     | some al2 =>
      rw [g2] at g;cases g;rcases wV f2 f4 h.2 n2 g2 with ⟨c,ys,w1,w2,w3,w4,w5,w6⟩ | ⟨w1,w2⟩
      ·refine .inl ⟨c,ys,by rw [jx (by rw [f1]; exact eq)]; exact w1,O7 _ w2,w3,w4,by rw [Pq,Pq,w5],fun H' O' oth new=>⟨oth b O6 (fun z=>n1 (by rw [z]; exact w2)) _ h.1,w6 H' O' (fun c' hc=>oth c' (O7 _ hc)) new⟩⟩
      ·exact .inr ⟨by rw [jx (by rw [f1]; exact eq)]; exact w1,by rw [w2]; rfl⟩
theorem vX {kvs:List (List Key×V)} {q:List Key} {v:V} (h:jB kvs q=none):putK kvs q v=kvs++[(q,v)]:=by
 unfold putK;rw [t6,h]; rfl
def CL (i:Nat) (fk fv:FX):cw:=fun k ρ=>match ρ[i]? with
 | some (some (.nest (.dct ks xs)))=>((Ci (fk ρ)).bind fun q=>(Ci (fv ρ)).bind fun v=>rO (yn ks xs q v)).bind fun al=>k.nx (ρ.set i (some (.nest (dh al))))
 | _=>un
theorem CI {i:Nat} {fk fv:FX} {k:Ks} {ρ:aq} {r:R D} (h:CL i fk fv k ρ=r) (hr:r≠un):∃ al q v al',ρ[i]?=some (some (.nest (dh al)))/\fk ρ=.ok (.tup (q.map bz))/\fv ρ=.ok v/\small al.length=true/\uC al q v=some al'/\k.nx (ρ.set i (some (.nest (dh al'))))=r:=by
 unfold CL at h;split at h
 ·rename_i ks xs hi;cases e1:fk ρ with
  | error z=>rw [e1] at h; exact absurd h.symm hr
  | ok qd =>
   rw [e1] at h;cases e2:fv ρ with
   | error z=>rw [e2] at h; exact absurd h.symm hr
   | ok v =>
    rw [e2] at h;have h':(rO (yn ks xs qd v)).bind (fun al=>k.nx (ρ.set i (some (.nest (dh al)))))=r:=h;clear h;cases e3:yn ks xs qd v with
    | none=>rw [e3] at h'; exact absurd h'.symm hr
    | some al' =>
     rw [e3] at h';obtain⟨al,q,f1,f2,f3,f4,f5⟩:=CA e3;subst f1 f2 f3;exact⟨al,q,v,al',hi,rfl,rfl,f4,f5,h'⟩
 ·exact absurd h.symm hr
theorem tE {K:RL} {H:Hp} {O:List S3} {a:S3} {bs:List S3} {al:List (List Key×D)} (h:yo K H O a bs (dh al)):∃ kvs:List (List Key×V),(H a=some (.dT kvs)\/(H a=some (.dK [])/\kvs=[]))/\kvs.map (·.1)=al.map (·.1)/\kvs.map (·.2)=bs.map .ref/\mK K H O bs (al.map (·.2)):=by
 obtain⟨xs,h1,h2⟩:=h;rcases h2 with ⟨e,_⟩ | ⟨kvs,e,q,e2⟩ | ⟨e,e2,q⟩
 ·cases e
 ·injection e with f1 f2;subst f2;refine⟨kvs,.inl q,?_,e2,h1⟩;exact(mN (ks:=kvs.map (·.1)) (by rw [Q0]; exact f1)).symm
 ·injection e with f1 f2;subst f2 e2
  have:al=[]:=by
   cases al with
   | nil=>rfl
   | cons _ _=>cases f1
  subst this;exact⟨[],.inr ⟨q,rfl⟩,rfl,rfl,h1⟩
section
variable {X:Cx}
theorem Mq {i:Nat} {x:Str} {ke ve:Tf} {fk fv:FX} {npos ap1 cp1 lp ap2 cp2 pos:Pos} (hu:X.A.units+64 < TJ) (hx:PE X (.Name x npos) (ux i)) (hke:FE X ke fk) (hve:FE X ve fv) (hn1:noStar ke=true:=by rfl) (hn2:noStar ve=true:=by rfl)
  (hb1:TB (.Name x npos) "setdefault" X.env (eval (.Name x npos) X.env)=eval (.Name x npos) X.env:=by rfl)
  (hf1:((backTo cp1 (Tg [ke,.List [] lp] X.env)).all (fun x=>!x.1) && (backToKw cp1 (TF [] X.env)).all (fun x=>x.1.isSome) && decide (([ke,.List [] lp]:List Tf).length+([]:List Uc).length+(if ([]:List Uc).isEmpty then 0 else 1) < 30))=true:=by rfl)
  (hl1:(ap1.endLine==cp1.line)=true:=by rfl) (hp1:(backTo cp1 (Tg [.List [] lp] X.env)).any (·.1)=false:=by rfl)
  (hb2:TB (.Call (.Attribute (.Name x npos) "setdefault" ap1) [ke,.List [] lp] [] cp1) "append" X.env (eval (.Call (.Attribute (.Name x npos) "setdefault" ap1) [ke,.List [] lp] [] cp1) X.env)=eval (.Call (.Attribute (.Name x npos) "setdefault" ap1) [ke,.List [] lp] [] cp1) X.env:=by rfl)
  (hf2:((backTo cp2 (Tg [ve] X.env)).all (fun x=>!x.1) && (backToKw cp2 (TF [] X.env)).all (fun x=>x.1.isSome) && decide (([ve]:List Tf).length+([]:List Uc).length+(if ([]:List Uc).isEmpty then 0 else 1) < 30))=true:=by rfl)
  (hl2:(ap2.endLine==cp2.line)=true:=by rfl) (hp2:(backTo cp2 (Tg [] X.env)).any (·.1)=false:=by rfl)
  (hsw:swapsWith (.Call (.Attribute (.Call (.Attribute (.Name x npos) "setdefault" ap1) [ke,.List [] lp] [] cp1) "append" ap2) [ve] [] cp2) none pos.line X.env=pure false:=by rfl) :
  FS X (.Expr (.Call (.Attribute (.Call (.Attribute (.Name x npos) "setdefault" ap1) [ke,.List [] lp] [] cp1) "append" ap2) [ve] [] cp2) pos) (CL i fk fv):=fun Hb Ob pins s σ H E I ⟨O,ρ,k,rr,S,hF,hk⟩=>by
 obtain⟨al,q,v,al',hi,hfk,hfv,hsm,hg,hnx⟩:=CI hF hk.ne;obtain⟨a,bs,ha,hat,nd,hbs,one⟩:=S.nst i _ hi;obtain⟨kvs,hH,ek,ev,hO⟩:=tE hat;obtain⟨na,nb⟩:=List.nodup_cons.mp nd;obtain⟨aO,aHb,aOb,aS⟩:=hbs a O6;have hlen:kvs.length < S6:=by
  have:kvs.length=al.length:=by have:=congrArg List.length ek; simpa using this
  rw [this]; exact Qw (of_decide_eq_true hsm) (by decide)
 refine wI (A9 F.plainAttrs_list F.slot_list_append F.type_list_append d5 (A9 F.plainAttrs_dict F.slot_dict_setdefault F.type_dict_setdefault (GR hu) hx (lG hke (lG (Az qf) qf) (dH hn1)) hb1 hf1 hl1 (dH hn1) hp1) (Ge hve Jd hn2) hb2 hf2 hl2 (dH hn2) hp2) hsw pins s σ H E I ?_;refine⟨.ref a,ha,.inr (.inr (.inl ⟨rfl,?_⟩)),O,ρ,S.env,?_⟩
 ·rcases hH with h | ⟨h,_⟩
  ·exact .inr ⟨_,h⟩
  ·exact .inl ⟨_,h⟩
 rw [hfk];intro y H1 s1 d1;refine⟨Pu _,fun p hp=>?_⟩;obtain⟨b,ws,eb,g1,g2⟩:=cJ.mp d1;rw [jp g2] at g1;have hb1':H1 b=some (.tup (q.map kV)):=(aB H1 O) _ _ g1;have bp:b≠p:=bc hb1' hp;have ap:a≠p:=by
  rcases hH with h | ⟨h,_⟩
  ·exact bc (s1 _ _ h) hp
  ·exact bc (s1 _ _ h) hp
 have pHb:Hb p=none:=(S.base.same.trans s1).free hp;have pO:p∉O:=(S.env.all.same s1).not hp;have pOb:p∉Ob:=fun z=>pO (S.base.sub p z);have bsp:∀ c∈bs,c≠p:=fun c hc=>by
  obtain⟨o,ho⟩:=hO.some c hc;exact bc (s1 _ _ ho) hp
 have E2:eG X.K (p::O) (upd H1 p (.lst [])) ρ σ:=(S.env.same s1).hideNew trivial hp;have sm2:bn (hid H O) (hid (upd H1 p (.lst [])) (p::O)):=(cf s1).trans (tL hp);have sH2:bn H (upd H1 p (.lst [])):=s1.trans (bF hp _);have pS:∀ (j:Nat) d',ρ[j]?=some (some (.own d'))->σ[j]?≠some (some (.ref p)):=fun j d' w z=>by
  obtain⟨c,e1,e2,_⟩:=S.env.own j d' w;rw [z] at e1; cases e1;exact pO e2
 have fin:∀ (H3:Hp) (l:S3) (wl:List V) (ys:List D) (bs':List S3) (kvs':List (List Key×V)),eG X.K (p::O) H3 ρ σ->bn (hid (upd H1 p (.lst [])) (p::O)) (hid H3 (p::O))->(∀ c o,c≠a->(upd H1 p (.lst [])) c=some o->H3 c=some o)->l∈bs'->l≠a->H3 l=some (.lst wl)->aZ X.K (hid H3 (p::O)) ys wl->ys.length+1<=100000 ->
   (H3 a=some (.dT kvs'))->kvs'.map (·.1)=al'.map (·.1)->kvs'.map (·.2)=bs'.map .ref->(a::bs').Nodup->(∀ c∈bs',c∈bs\/c=p) ->
   (∀ H' O',(∀ c∈bs',c≠l->∀ x,dW X.K H3 (p::O) c x->dW X.K H' O' c x)->dW X.K H' O' l (.lst (ys++[v]))->mK X.K H' O' bs' (al'.map (·.2))) ->
   M6 X.K "list" (.ref l) H3/\LZ X (af fv au) σ H3 fun vs H4=>xK (.ref l) vs H4 fun _ H5=>E.nx σ H5:=by
  intro H3 l wl ys bs' kvs' E3 sm3 keep3 lb la hl3 dl ln ha3 k1 k2 nd' mem new;refine⟨.inl ⟨rfl,wl,oZ.of hl3⟩,p::O,ρ,E3,?_⟩;have e1:(af fv au) ρ=.ok [v]:=by
   show (fv ρ).bind _=_;rw [hfv]; rfl
  rw [e1];intro vs H4 s4 dv;obtain⟨y',rfl,dy⟩:=dv.one;have lO:l∈p::O:=by
   rcases mem l lb with z | z
   ·exact O7 _ (hbs l (O7 _ z)).1
   ·rw [z]; exact O6
  have lHb:Hb l=none:=by
   rcases mem l lb with z | z
   ·exact(hbs l (O7 _ z)).2.1
   ·rw [z]; exact pHb
  have lS:∀ (j:Nat) d',ρ[j]?=some (some (.own d'))->σ[j]?≠some (some (.ref l)):=by
   rcases mem l lb with z | z
   ·exact(hbs l (O7 _ z)).2.2.2
   ·rw [z]; exact pS
  have hl4:=s4 _ _ hl3;have sm5:bn (hid H3 (p::O)) (hid (upd H4 l (.lst (wl++[y']))) (p::O)):=(cf s4).trans (iw lO);have wlen:=dl.length;refine⟨l,wl,y',rfl,rfl,hl4,by rw [<- wlen]; exact OZ (Nat.lt_of_succ_le ln) (by decide),hk.nx (p::O) _ σ _ (S.setN hi (fun c hc=>O7 _ hc) ((sm2.trans sm3).trans sm5) ⟨fun c u h=>?_,fun c hc=>O7 _ (S.base.sub c hc),fun c hc=>?_⟩ ((E3.all.same s4).upd lO trivial) (fun j xs c w1 w2=>?_) ?_) hnx⟩
  ·have ca:c≠a:=fun z=>by rw [z,aHb] at h; cases h
   have cl:c≠l:=fun z=>by rw [z,lHb] at h; cases h
   rw [aE cl];exact s4 _ _ (keep3 c u ca (sH2 _ _ (S.base.same c u h)))
  ·rcases List.mem_cons.mp hc with z | z
   ·rw [z]; exact .inr pHb
   ·exact S.base.new c z
  ·obtain⟨c',q1,q2,q3⟩:=S.env.own j xs w1;rw [w2] at q1; cases q1;obtain⟨o,ho⟩:=q3.some;have ca:c≠a:=fun z=>aS j xs w1 (by rw [<- z]; exact w2);have cl:c≠l:=fun z=>lS j xs w1 (by rw [<- z]; exact w2);rw [ho,aE cl];exact(s4 _ _ (keep3 c o ca (sH2 _ _ ho))).symm
  ·refine⟨a,bs',ha,⟨al'.map (·.2),new _ _ (fun c hc ne x hx=>hx.mono ?_ sm5) ⟨_,_,aQ,rfl,?_⟩,.inr (.inl ⟨kvs',?_,?_,k2⟩)⟩,nd',fun c hc=>?_,fun j d' w=>?_⟩
   ·obtain⟨o,ho⟩:=hx.some;rw [aE ne,ho,s4 _ _ ho]
   ·exact(dl.mono sm5).append (bB.mpr ⟨y',[],rfl,dy.mono (iw lO),cZ.mpr rfl⟩)
   ·show D.dct (encK al') _=_;rw [ue k1]
   ·rw [aE (Ne.symm la)]; exact s4 _ _ ha3
   ·have own:∀ (j:Nat) d',(ρ.set i (some (.nest (dh al'))))[j]?=some (some (.own d'))->ρ[j]?=some (some (.own d')):=fun j d' w=>by
     rcases bh w with ⟨_,z⟩ | ⟨_,z⟩
     ·cases z
     ·exact z
    rcases List.mem_cons.mp hc with z | z
    ·rw [z]; exact⟨O7 _ aO,aHb,aOb,fun j d' w=>aS j d' (own j d' w)⟩
    ·rcases mem c z with z' | z'
     ·obtain⟨w1,w2,w3,w4⟩:=hbs c (O7 _ z');exact⟨O7 _ w1,w2,w3,fun j d' w=>w4 j d' (own j d' w)⟩
     ·rw [z']; exact⟨O6,pHb,pOb,fun j d' w=>pS j d' (own j d' w)⟩
   ·rcases bh w with ⟨hj,_⟩ | ⟨_,z⟩
    ·exact hj
    ·exact one j d' z
 have hH2:upd H1 p (.lst []) a=some (.dT kvs)\/(upd H1 p (.lst []) a=some (.dK [])/\kvs=[]):=by
  rw [aE ap];rcases hH with h | ⟨h,z⟩
  ·exact .inl (s1 _ _ h)
  ·exact .inr ⟨s1 _ _ h,z⟩
 have hO2:mK X.K (upd H1 p (.lst [])) (p::O) bs (al.map (·.2)):=hO.mono sm2 fun c hc ⟨o,ho⟩=>by rw [aE (bsp c hc),ho,s1 _ _ ho]
 refine⟨a,b,q,kvs,.ref p,rfl,by rw [eb],by rw [aE bp]; exact hb1',hH2,hlen,fun v' hv=>?_,fun hv=>?_⟩
 ·rcases wV ek ev hO2 nb hg with ⟨c,ys,w1,w2,w3,w4,w5,w6⟩ | ⟨w1,_⟩
  ·rw [w1] at hv; cases hv;obtain⟨o,wl,h1,h2,h3⟩:=w3;subst h2;rcases hH2 with hH2 | ⟨_,z⟩
   ·exact fin _ c wl ys bs kvs E2 (fun _ _ z=>z) (fun _ _ _ z=>z) w2 (fun z=>na (by rw [<- z]; exact w2)) h1 h3 (of_decide_eq_true w4) hH2 (ek.trans w5.symm) ev nd (fun _ z=>.inl z) w6
   ·subst z; cases w1
  ·rw [w1] at hv; cases hv
 ·rcases wV ek ev hO2 nb hg with ⟨c,ys,w1,_⟩ | ⟨_,w2⟩
  ·rw [w1] at hv; cases hv
  ·subst w2;have aO2:a∈p::O:=O7 _ aO;refine fin (upd (upd H1 p (.lst [])) a (.dT (putK kvs q (.ref p)))) p [] [] (bs++[p]) (putK kvs q (.ref p)) (E2.rewrite (show tx (.dT (putK kvs q (.ref p))) from trivial) aO2 aS) (iw aO2) (fun c o ne z=>by rw [aE ne]; exact z) (by simp) (Ne.symm ap) (by rw [aE (Ne.symm ap)]; exact aQ) (cZ.mpr rfl) (by decide) aQ ?_ ?_ ?_ (fun c hc=>?_) fun H' O' oth new=>?_
   ·rw [vX hv,Qq,Qq,ek]; rfl
   ·rw [vX hv,Qq,Qq,ev]; rfl
   ·refine List.nodup_cons.mpr ⟨fun z=>?_,List.nodup_append.mpr ⟨nb,by simp,fun c hc c' hc' e=>?_⟩⟩
    ·rcases List.mem_append.mp z with z | z
     ·exact na z
     ·exact ap (List.mem_singleton.mp z)
    ·rw [List.mem_singleton.mp hc'] at e;exact bsp c hc e
   ·rcases List.mem_append.mp hc with z | z
    ·exact .inl z
    ·exact .inr (List.mem_singleton.mp z)
   ·rw [Qq];refine mK.snoc new (hO2.imp fun c hc x hx=>oth c (O8 _ hc) (bsp c hc) x (hx.mono ?_ (iw aO2)));exact(aE fun z=>na (by rw [<- z]; exact hc)).symm
end
end TG
namespace TG
open PySem PySem.Spec L2
section
variable {prog:S0} {w:SZ} {A:Tb} {E:SY->Tc->Prop} {s:Tc} {it d v:S3} {i ep:Nat} {o:Obj} {es:Array UK} {ok ov:SY}
theorem zX {Q:SY->Tc->Prop} (ho:s.heap.get? d=some o) (hx:o.ExactDict) (hd:(d==sysModules)=false) (h:Q (.ref s.heap.objs.size) { s with heap:=s.heap.push { cls:=.type "dict_items",data:=.fields #[.ref d] } }) :
  Te (model prog w) A (call (.builtin "dict.items") [.ref d]) Q E s:=by
 refine T7 PySem.F.slot_dict_items ⟨o,ho,hx.1⟩ PySem.F.entry_dict_items ?_ (PySem.F.args_dict_items_1 _);unfold Builtin.«dict.items»; refine Tp ?_; unfold Builtin.Dict.noArgs; refine Tp (UI ⟨o,ho,hx.1⟩ ?_);show Te _ _ (pure d) _ _ s; refine To ?_; show Te _ _ (Builtin.Dict.showsAll d >>= _) _ _ s; unfold Builtin.Dict.showsAll; rw [if_neg (by rw [hd]; exact Pn)];exact Tp (To (Tp (T9 (To ⟨_,rfl,h⟩))))
theorem Ab {Q:SY->Tc->Prop} (hv:s.heap.IsItemsView v d) (ho:s.heap.get? d=some o) (hdat:o.data=.dict es ep)
  (hQ:Q (.ref s.heap.objs.size) { s with heap:=s.heap.push { cls:=.type "dict_itemiterator",data:=.fields #[.none,.bool false,.ref d,.int 0 0,.int es.size 0,.int ep 0,.none,.none] } }):Te (model prog w) A (pyIter (.ref v)) Q E s:=by
 obtain⟨w1,hov,hcv,hdv⟩:=id hv;refine wpAny_pyIter_slot hv.typeIs F.slot_dict_items_iter (T7 F.slot_dict_items_iter hv.typeIs F.entry_dict_items_iter ?_ (F.args_dict_items_iter_1 _));unfold Builtin.«dict_items.__iter__»; refine Tp (To (Tp ?_)); unfold Builtin.Dict_items.dictOf;refine Tp (T3 hov hdv (x:=.ref d) rfl (To (Tp ?_))); unfold Builtin.Dict_items.newIterator;refine Tp (UJ ho hdat (Tp (UL ho hdat ?_)));simp only [show Builtin.Dict_items.ownsTuple "dict_itemiterator"=true by decide,if_true];refine T9 (To ⟨_,rfl,"dict_itemiterator",_,⟨_,Sq _ rfl,rfl⟩,F.slot_dict_itemiterator_next.lookup,?_⟩) (by simp only [sizeOk,Builtin.Dict_items.ownedTupleFields,Pm,PK,Pp,P0,Tx]; omega)
 simpa [rawInt,Builtin.Dict_items.ownedTupleFields] using hQ
theorem zH {Q:Option SY->Tc->Prop} (hit:UM s.heap it d i es.size ep ok ov) (hod:s.heap.get? d=some o) (hdd:o.data=.dict es ep) (hlt:i < es.size)
  (hQ:∀ h',UN h' it d (i+1) es.size ep es[i].key es[i].val s.heap.objs.size->h'.get? s.heap.objs.size=some { cls:=.type "tuple",data:=.seq #[es[i].key,es[i].val] }->h'.objs.size=s.heap.objs.size+1 ->
   (∀ b o,b≠it->s.heap.get? b=some o->h'.get? b=some o)->Q (some (.ref s.heap.objs.size)) { s with heap:=h' }):Te (model prog w) A (pyNext (.ref it)) Q E s:=by
 obtain⟨hp,g,dr,tk,os⟩:=s;have hT:Shared.TypeIs ⟨hp,g,dr,tk,os⟩ (.ref it) "dict_itemiterator":=⟨_,hit,rfl⟩
 unfold pyNext;refine Tp (Uw (T6 (name:=Str.ofString "__next__") hT F.slot_dict_itemiterator_next (T7 F.slot_dict_itemiterator_next hT F.entry_dict_itemiterator_next ?_ (F.args_dict_itemiterator_next_1 _))));refine Tp (To (Tp (Tp ?_))); first | refine Tp (UO hT (To ?_)) | refine Tp (UP hT (To ?_))
 refine Tp (UQ hit rfl ?_); have hown:Builtin.Dict_items.ownsTuple "dict_itemiterator"=true:=by decide
 simp only [hown,if_true]; show Te _ _ (if (Value.ref d==Value.none)=true then _ else _) _ _ _; rw [if_neg (show ¬ ((Value.ref d==Value.none)=true) from Pn)];refine Tp (To (Tp (UJ hod hdd ?_))); rw [if_neg (by simp)];refine Tp (To (Tp (UL hod hdd ?_))); rw [if_neg (by simp)];refine To ?_; simp only [show ¬ ((i:Int) < 0) from by omega,if_false,PL,Array.getElem?_eq_getElem hlt];refine Tp ?_; first | refine Tp (UO hT (To ?_)) | refine Tp (UP hT (To ?_))
 refine Tp (UR hT ?_); show Te _ _ (setField (.ref it) 3 (rawInt ((i:Int)+1)) >>= _) _ _ ⟨hp,g,dr,tk,os⟩;refine Tp (Ur hit (by simp) fun h₁ he₁ hs₁=>?_); replace hs₁:Sl it hp h₁:=hs₁
 replace he₁:UM h₁ it d (i+1) es.size ep ok ov:=by
  have e:((i+1:Nat):Int)=(i:Int)+1:=by omega
  unfold UM; rw [e]; simpa [rawInt] using he₁
 have hT₁:Shared.TypeIs ⟨h₁,g,dr,tk,os⟩ (.ref it) "dict_itemiterator":=⟨_,he₁,rfl⟩
 refine Tp (T5 (Tp (UR hT₁ (Tp (UR hT₁ ?_)))));show Te _ _ (Builtin.Dict_items.pairFromOwner (.ref it) 6 es[i].key es[i].val) _ _ ⟨h₁,g,dr,tk,os⟩; unfold Builtin.Dict_items.pairFromOwner; refine Tp (Uv ?_);have he₂:UM (h₁.push { cls:=.type "tuple",data:=.seq #[es[i].key,es[i].val] }) it d (i+1) es.size ep ok ov:=Sn _ he₁;generalize hh₂:h₁.push { cls:=.type "tuple",data:=.seq #[es[i].key,es[i].val] }=h₂ at he₂;have hz₁:h₁.objs.size=hp.objs.size:=hs₁.1;have hil:it < hp.objs.size:=Si hit;have ht₂:h₂.get? hp.objs.size=some { cls:=.type "tuple",data:=.seq #[es[i].key,es[i].val] }:=by rw [<- hh₂,<- hz₁]; exact Sq _ rfl
 have hz₂:h₂.objs.size=hp.objs.size+1:=by rw [<- hh₂,Sr,hz₁]
 have hk₂:∀ b o,b≠it->hp.get? b=some o->h₂.get? b=some o:=fun b o hb e=>by rw [<- hh₂]; exact Sn _ (hs₁.extBut b o hb e)
 show Te _ _ (Builtin.Dict_items.ownedTupleIsFree (.ref it) >>= _) _ _ ⟨h₂,g,dr,tk,os⟩; rw [hz₁]; clear hh₂ he₁ hs₁ hT₁ hz₁ h₁;refine Tp ?_; unfold Builtin.Dict_items.ownedTupleIsFree; refine Tp (T3 he₂ rfl (x:=.none) rfl (To ?_)); simp only [if_true];refine Tp (T3 he₂ rfl (x:=ok) rfl (Tp (T3 he₂ rfl (x:=ov) rfl ?_)));refine Tp (Ur he₂ (by simp) fun h₃ he₃ hs₃=>?_); replace hs₃:Sl it h₂ h₃:=hs₃
 replace he₃:UM h₃ it d (i+1) es.size ep es[i].key ov:=he₃
 refine Tp (Ur he₃ (by simp) fun h₄ he₄ hs₄=>?_); replace hs₄:Sl it h₃ h₄:=hs₄
 replace he₄:UM h₄ it d (i+1) es.size ep es[i].key es[i].val:=he₄
 refine Tp (Ur he₄ (by simp) fun h₅ he₅ hs₅=>?_); replace hs₅:Sl it h₄ h₅:=hs₅
 replace he₅:UN h₅ it d (i+1) es.size ep es[i].key es[i].val hp.objs.size:=he₅
 refine Tp (Ur he₅ (by simp) fun h₆ he₆ hs₆=>?_); replace hs₆:Sl it h₅ h₆:=hs₆
 replace he₆:UN h₆ it d (i+1) es.size ep es[i].key es[i].val hp.objs.size:=he₆
 refine Tp (Uu (To (To ⟨_,rfl,To (hQ h₆ he₆ ?_ ?_ ?_)⟩)))
 ·have n:=Pb hil; exact hs₆.extBut _ _ n (hs₅.extBut _ _ n (hs₄.extBut _ _ n (hs₃.extBut _ _ n ht₂)))
 ·show h₆.objs.size=hp.objs.size+1; rw [hs₆.1,hs₅.1,hs₄.1,hs₃.1,hz₂]
 ·exact fun b o hb e=>hs₆.extBut b o hb (hs₅.extBut b o hb (hs₄.extBut b o hb (hs₃.extBut b o hb (hk₂ b o hb e))))
theorem BH {Q:Option SY->Tc->Prop} (hh:A.handled=none) (hit:UM s.heap it d i es.size ep ok ov) (hod:s.heap.get? d=some o) (hdd:o.data=.dict es ep) (hge:es.size<=i)
  (hQ:∀ h',Su it s.heap h'->Q none { s with heap:=h' }):Te (model prog w) A (pyNext (.ref it)) Q E s:=by
 have hT:s.TypeIs (.ref it) "dict_itemiterator":=⟨_,hit,rfl⟩
 unfold pyNext;refine Tp (Uw (T6 (name:=Str.ofString "__next__") hT F.slot_dict_itemiterator_next (T7 F.slot_dict_itemiterator_next hT F.entry_dict_itemiterator_next ?_ (F.args_dict_itemiterator_next_1 _))));refine Tp (To (Tp (Tp ?_))); first | refine Tp (UO hT (To ?_)) | refine Tp (UP hT (To ?_))
 refine Tp (UQ hit rfl ?_); have hown:Builtin.Dict_items.ownsTuple "dict_itemiterator"=true:=by decide
 simp only [hown,if_true]; show Te _ _ (if (Value.ref d==Value.none)=true then _ else _) _ _ s; rw [if_neg (show ¬ ((Value.ref d==Value.none)=true) from Pn)];refine Tp (To (Tp (UJ hod hdd ?_))); rw [if_neg (by simp)];refine Tp (To (Tp (UL hod hdd ?_))); rw [if_neg (by simp)];refine To ?_; simp only [show ¬ ((i:Int) < 0) from by omega,if_false,PL,Array.getElem?_eq_none hge];refine Tp ?_; first | refine Tp (UO hT (To ?_)) | refine Tp (UP hT (To ?_))
 show Te _ _ (setField (.ref it) 2 .none >>= _) _ _ s; refine Tp (Ul hit rfl (by simp) ?_);show Te _ _ (newExc (.type "StopIteration") [] >>= _) _ _ _; refine Tp ?_; simp only [newExc,newTuple]; refine Tp (T9 ?_ (by size_fits));refine Tp (m:=firstArgMember _ _) (wpAny_of_eq (a:=Value.none) (by first | rfl | (simp only [firstArgMember]; rfl)) ?_); refine T9 ?_ (by size_fits);simp only [raiseNew]; refine Tp (Um ?_); rw [show A.in1.handled=none from hh]; refine Tp (To (wpAny_throw ?_));refine Tp (Ux (T := "StopIteration") (b:=true) ⟨_,Sq _ rfl,rfl⟩ Uy ?_); exact To (hQ _ (((Heap.SameBut.update ..).extBut.push _).push _))
end
variable [aX]
abbrev oU (al:List (List Key×D)):D:=.dct (.non::encK al) (al.map (·.2))
theorem zP {X:Cx} {pins:List (S3×Obj)} {σ:St} {H:Hp} {s:Tc} {a:S3} {o:Obj} {kvs:List (List Key×V)} (I:Inv X pins σ H s) (e:H a=some (.frz o (.dT kvs))):s.heap.get? a=some o/\o.ExactDict/\(a==sysModules)=false/\∃ es ep xs,o.data=.dict es ep/\KT H kvs xs/\es.toList=xs.map (entryOfKey (tupleKind (cn X.prog X.w))):=by
 obtain⟨ho,z,hd,xs,rel,o',es,ep,h1,h2,h3,h4,h5⟩:=(show cK X.prog X.w H s.heap a (.frz o (.dT kvs)) from I.hok a _ e)
 rw [ho] at h1; cases h1;exact⟨ho,h2,hd,es,ep,xs,h3,rel,h4⟩
def MI (a:S3) (o:Obj) (kvs:List (List Key×V)):It :=
  ⟨fun i H=>H a=some (.frz o (.dT kvs))/\i < kvs.length,
   fun i H v H'=>∃ p b q w,v=.ref p/\H p=none/\H'=upd H p (.tup [.ref b,w])/\kvs[i]?=some (q,w)/\H b=some (.tup (q.map kV)),
   fun i H=>H a=some (.frz o (.dT kvs))/\i=kvs.length⟩
theorem tu {α β:Type} {R:α->β->Prop}:∀ {xs:List α} {ys:List β},S4 R xs ys->∀ {i:Nat} {x:α},xs[i]?=some x->∃ y,ys[i]?=some y/\R x y:=fun h=>by
 induction h with
 | nil=>intro i x e; simp at e
 | cons hq _ ih =>
  intro i x e;cases i with
  | zero=>rw [QB] at e; cases e; exact⟨_,rfl,hq⟩
  | succ i=>rw [QC] at e ⊢; exact ih e
theorem zS {P:S0} {w:SZ} {K:RL} {es':List Tf} {k:Nat} {pos:Pos} {a it:S3} {o:Obj} {es:Array UK} {ep:Nat} {kvs:List (List Key×V)} (hda:o.data=.dict es ep):Turn P w K (.Tuple es' k pos) (MI a o kvs) [it] it (fun i h=>∃ ok ov,UM h it a i es.size ep ok ov) where
 mem:=by simp
 obj:=fun i h ⟨ok,ov,hz⟩ c hc=>by rw [List.mem_singleton.mp hc]; exact⟨_,hz,fun v q=>by cases q⟩
 keep:=fun i h h' ⟨ok,ov,hz⟩ kp=>⟨ok,ov,kp it (by simp) _ hz⟩
 item:=by
  intro X hP hw hK hc i pins s σ H E I hf ⟨ok,ov,hit⟩ ⟨ha,hi⟩;subst hP hw hK;obtain⟨ho,hx,_,es2,ep2,xs,h3,rel,h4⟩:=zP I ha;rw [hda] at h3; cases h3;have hl:es.size=xs.length:=by rw [<- Array.length_toList,h4,Pr]
  have hkl:kvs.length=xs.length:=Paired.length rel;have hlt:i < es.size:=by omega
  obtain⟨x,ex,f1,f2,f3⟩:=tu rel (i:=i) (x:=kvs[i]) (by simp [hi]);have ee:es[i]=entryOfKey (tupleKind (cn X.prog X.w)) x:=by
   have:es.toList[i]?=some (entryOfKey (tupleKind (cn X.prog X.w)) x):=(by rw [h4,PF,ex]; rfl);rw [Array.getElem?_toList,Array.getElem?_eq_getElem hlt] at this;exact Option.some.inj this
  refine zH hit ho hda hlt fun h' out tp sz kp=>⟨_,rfl,wpAny_letOwnedTupleGo_items out fun h2 hit2 sb=>?_⟩
  have hpz:s.heap.objs.size≠it:=Pb (Si hit);have tp2:=sb.extBut _ _ hpz tp;rw [ee] at tp2;have I':Inv X pins σ (upd H s.heap.objs.size (.tup [.ref x.2.1,kvs[i].2])) { s with heap:=h2 }:=Inv.turnedL (ch:=[it]) (t':=s.toks) I hf (fun c u hc e=>by
   have hc:c≠it:=(by simpa using hc);exact sb.extBut _ _ hc (kp c u hc e)) (Ph _) ⟨by show 2<=S6; decide,[.ref x.2.1,x.2.2],.cons rfl (.cons f3 .nil),_,tp2,rfl,_,rfl⟩
  refine⟨.ref s.heap.objs.size,_,I',rfl,⟨_,x.2.1,kvs[i].1,kvs[i].2,rfl,I.fresh,rfl,by simp [hi],f2⟩,⟨_,_,hit2⟩,fun c hc=>?_⟩;rw [List.mem_singleton.mp hc,aE (Ne.symm hpz)]; exact(hf it (by simp)).1
 done:=by
  intro X hP hw hK hc i pins s σ H E I hf ⟨ok,ov,hit⟩ ⟨ha,hi⟩;subst hP hw hK;obtain⟨ho,hx,_,es2,ep2,xs,h3,rel,h4⟩:=zP I ha;rw [hda] at h3; cases h3;have hl:es.size=xs.length:=by rw [<- Array.length_toList,h4,Pr]
  have hkl:kvs.length=xs.length:=Paired.length rel;exact BH (I.ok.hd hc) hit ho hda ‹0› fun h' eb=>⟨rfl,Inv.turned0 (ch:=[it]) I hf fun c u hc e=>eb c u (by simpa using hc) e⟩
 self:=fun _ _ _ _ _ ⟨_,_,hz⟩ h=>PySem.W.kcp_self hz h
theorem wJ {K:RL} {H:Hp}:∀ q:List Key,aZ K H (q.map bz) (q.map kV)
 | []=>cZ.mpr rfl
 | k::q=>bB.mpr ⟨kV k,_,rfl,by cases k with | inl i=>exact fW.mpr rfl | inr x=>exact fU.mpr rfl,wJ q⟩
abbrev me (p:List Key×D):D:=.tup [.tup (p.1.map bz),p.2]
theorem zK {K:RL} {Hd:Hp} {a:S3} {o:Obj} {kvs:List (List Key×V)} {al:List (List Key×D)} (h:Hd a=some (.frz o (.dT kvs))) (e1:kvs.map (·.1)=al.map (·.1)) (e2:aZ K Hd (al.map (·.2)) (kvs.map (·.2))):Walk K Hd (MI a o kvs) (al.map me):=fun Hn O' i hO sm=>by
 have s':bn Hd Hn:=sm.trans (aB Hn O');have hl:kvs.length=al.length:=by have:=congrArg List.length e1; simpa using this
 refine⟨fun d e=>?_,fun hl'=>⟨s' _ _ h,by rw [hl',Pr,hl]⟩⟩;rw [PF] at e;cases ep:al[i]? with
 | none=>rw [ep] at e; cases e
 | some p =>
  rw [ep] at e; cases e;have hi:i < al.length:=(List.getElem?_eq_some_iff.mp ep).1;refine⟨⟨s' _ _ h,by omega⟩,fun x H2 ⟨c,b,q,w,ex,hc,eH,ek,hb⟩=>?_⟩;subst ex eH;have k1:q=p.1:=by
   have:=congrArg (fun l=>l[i]?) e1
   simp only [PF,ek,ep] at this;exact Option.some.inj this
  obtain⟨w',ew,dw⟩:=e2.get (i:=i) (d:=p.2) (by rw [PF,ep]; rfl);rw [PF,ek] at ew;cases ew;subst k1;have bO:b∉O':=fun z=>by
   obtain⟨u,q1,q2⟩:=hO.2 b z;rw [hb] at q1; cases q1; exact q2
  exact⟨bF hc _,e8 hO hc (bB.mpr ⟨.ref b,_,rfl,cJ.mpr ⟨b,_,rfl,by rw [jV bO]; exact hb,wJ p.1⟩,bB.mpr ⟨w,_,rfl,dw.mono sm,cZ.mpr rfl⟩⟩)⟩
def zZ:D->Option (List D)
 | .dct (.non::ks) ds=>(j9 ks ds).map fun al=>al.map me
 | _=>none
def lW (f:FX):aq->R (List D):=fun ρ=>(f ρ).bind fun d=>rO (zZ d)
theorem xS {K:RL} {H:Hp} {v:V} {al:List (List Key×D)} (h:cY K H (oU al) v):∃ a o kvs,v=.ref a/\H a=some (.frz o (.dT kvs))/\kvs.map (·.1)=al.map (·.1)/\aZ K H (al.map (·.2)) (kvs.map (·.2)):=by
 obtain⟨a,vs,e0,h2,h3⟩:=L7.mp h;rcases h3 with ⟨kvs,e,e1,e2⟩ | ⟨kvs,e,e1,e2⟩ | ⟨kvs,o,e,e1,e2⟩
 ·cases kvs with
  | nil=>cases e1
  | cons p r =>
   injection e1 with e1 _;rcases p with ⟨k,v⟩
   cases k <;> cases e1
 ·cases kvs with
  | nil=>cases e1
  | cons p r=>injection e1 with e1 _; cases e1
 ·injection e1 with _ e1;subst e2;exact⟨a,o,kvs,e0,e,(mN (ks:=kvs.map (·.1)) (by rw [Q0]; exact e1)).symm,h2⟩
section
variable {X:Cx}
theorem KQ {o:Tf} {es:List Tf} {k:Nat} {tpos:Pos} {f:FX} {apos cpos:Pos} (ho:FE X o f) (hbase:TB o "items" X.env (eval o X.env)=eval o X.env:=by rfl) (hline:(apos.endLine==cpos.line)=true:=by rfl):FI X (.Tuple es k tpos) (.Call (.Attribute o "items" apos) [] [] cpos) (lW f):=by
 intro pins s σ H RR I ⟨O,ρ,E,hG⟩;refine wpAny_Call_method0_late hbase hline (eZ (ho pins s σ H (fun v H1=>∃ a o kvs,v=.ref a/\H1 a=some (.frz o (.dT kvs))/\RR (MI a o kvs) H1) I ⟨O,ρ,E,(jw.bind hG).imp fun d hG v H1 s1 d1=>?_⟩) fun v s1 ⟨x,H1,I1,r1,a,o,kvs,ex,ha,hR⟩=>?_)
 ·obtain⟨ds,hg,q⟩:=jw.rO hG;unfold zZ at hg;split at hg
  ·rename_i ks dl;cases e1:j9 ks dl with
   | none=>rw [e1] at hg; cases hg
   | some al =>
    rw [e1] at hg; cases hg;obtain⟨f1,f2⟩:=i7 e1;subst f1 f2;obtain⟨a,o,kvs,q1,q2,q3,q4⟩:=xS d1;exact⟨a,o,kvs,q1,(aB H1 O) _ _ q2,q _ H1 s1 (zK q2 q3 q4)⟩
  ·cases hg
 ·subst ex;cases r1;obtain⟨hob,hx,hsm,es2,ep,xs,hda,_⟩:=zP I1 ha;refine⟨"dict","dict.items",F.plainAttrs_dict,F.slot_dict_items,F.type_dict_items,⟨o,hob,hx.1⟩,fun c e=>by cases e; exact⟨o,hob,hx.2.1⟩,Calls.callWith_builtin rfl (PySem.evalArgs_none ?_)⟩;refine zX hob hx hsm (Ab ⟨_,Sq _ rfl,rfl,rfl⟩ (Sn _ hob) hda ?_);have le:s1.heap.objs.size<=(s1.heap.push { cls:=.type "dict_items",data:=.fields #[.ref a] }).objs.size:=by rw [Sr]; exact Px _
  refine⟨_,_,_,_,H1,rfl,I1.kept (t':=s1.toks) fun b u e=>Sn _ (Sn _ e),zS hda,⟨_,_,Sq _ rfl⟩,fun b hb=>?_,hR⟩;rw [List.mem_singleton.mp hb];exact I1.fpOk le (I1.hok.fresh le)
end
theorem fw.frzG {K:RL} {Hb:Hp} {Ob O:List S3} {H H':Hp} {ρ:aq} {σ:St} (E:fw K Hb Ob O H ρ σ) {i:Nat} {d d':D} (hd:ρ[i]?=some (some (.nest d))) {a:S3} {bs:List S3} (h1:σ[i]?=some (some (.ref a))) (h4:∀ b∈a::bs,b∈O/\Hb b=none/\b∉Ob/\∀ (j:Nat) d',ρ[j]?=some (some (.own d'))->σ[j]?≠some (some (.ref b))) (h5:∀ (j:Nat) d',ρ[j]?=some (some (.nest d'))->j=i)
  (hH:∀ b,b≠a->H' b=H b) (tab:aX.tab H') (dn:bn (hid H O) (hid H' (O.filter fun b=>decide (b∉a::bs)))->(∀ b∈a::bs,b∉O.filter fun b=>decide (b∉a::bs))->cY K (hid H' (O.filter fun b=>decide (b∉a::bs))) d' (.ref a)):fw K Hb Ob (O.filter fun b=>decide (b∉a::bs)) H' (TG.setV i d' ρ) σ:=by
 have sub:∀ b∈O.filter (fun b=>decide (b∉a::bs)),b∈O:=fun b hb=>(List.mem_filter.mp hb).1;have na:∀ b∈a::bs,b∉O.filter fun b=>decide (b∉a::bs):=fun b hb z=>(of_decide_eq_true (List.mem_filter.mp z).2) hb;have aO:=(h4 a O6).1;have s:bn (hid H O) (hid H' (O.filter fun b=>decide (b∉a::bs))):=fun b u e=>by
  unfold hid at e ⊢;by_cases hb:b∈O
  ·rw [if_pos hb] at e; cases e
  ·rw [if_neg hb] at e;rw [if_neg fun z=>hb (sub b z),hH b fun z=>hb (by rw [z]; exact aO)]; exact e
 have bk:∀ (l:Nat) x,(TG.setV i d' ρ)[l]?=some (some x)->(∀ d,x≠.val d)->ρ[l]?=some (some x):=fun l x e nv=>by
  rcases bh e with ⟨_,q⟩ | ⟨_,q⟩
  ·cases q; exact absurd rfl (nv _)
  ·exact q
 refine⟨⟨fun j d1 e=>?_,fun j xs e=>?_,fun j l xs ys b e1 e2 e3 e4=>E.env.one j l xs ys b (bk j _ e1 (fun _ z=>nomatch z)) (bk l _ e2 (fun _ z=>nomatch z)) e3 e4,⟨tab,fun b hb=>?_⟩⟩,⟨fun b u e=>?_,fun b hb=>?_,fun b hb=>E.base.new b (sub b hb)⟩,fun j xs b e1 e2=>E.mine j xs b (bk j _ e1 (fun _ z=>nomatch z)) e2,fun j dn e=>?_⟩
 ·rcases bh e with ⟨hj,q⟩ | ⟨ne,q⟩
  ·cases q; rw [hj]; exact⟨.ref a,h1,dn s na⟩
  ·obtain⟨w,q1,q2⟩:=E.env.val j d1 q;exact⟨w,q1,q2.mono s⟩
 ·obtain⟨b,q1,q2,q3⟩:=E.env.own j xs (bk j _ e (fun _ z=>nomatch z));have nb:b∉a::bs:=fun z=>(h4 b z).2.2.2 j xs (bk j _ e (fun _ z=>nomatch z)) q1;exact⟨b,q1,List.mem_filter.mpr ⟨q2,decide_eq_true nb⟩,q3.mono (hH b fun z=>nb (by rw [z]; exact O6)).symm s⟩
 ·rw [hH b fun z=>na b (by rw [z]; exact O6) hb]; exact E.env.all.2 b (sub b hb)
 ·rw [hH b fun z=>by rw [z,(h4 a O6).2.1] at e; cases e]; exact E.base.same b u e
 ·exact List.mem_filter.mpr ⟨E.base.sub b hb,decide_eq_true fun z=>(h4 b z).2.2.1 hb⟩
 ·have q:=bk j _ e (fun _ z=>nomatch z);have hj:=h5 j dn q;subst hj;rcases bh e with ⟨_,q⟩ | ⟨ne,_⟩
  ·cases q
  ·exact absurd rfl ne
theorem Kh {X:Cx} {pins:List (S3×Obj)} {σ:St} {H:Hp} {s:Tc} {a:S3} {kvs:List (List Key×V)} (I:Inv X pins σ H s) (h1:H a=some (.dT kvs)):∃ o,Inv X pins σ (upd H a (.frz o (.dT kvs))) s:=by
 obtain⟨z,hd,xs,rel,o,es,ep,g1,g2⟩:=(show cK X.prog X.w H s.heap a (.dT kvs) from I.hok a _ h1)
 refine⟨o,nq (ob:=.frz o (.dT kvs)) (h':=s.heap) (t':=s.toks) I (by rw [h1]; exact trivial) ⟨rfl,fun _ _=>rfl⟩ ⟨o,g1⟩ ⟨g1,z,hd,xs,KT.keeps rel fun b ys eb=>?_,o,es,ep,g1,g2⟩⟩;rw [aE (Fi eb h1 (fun z=>nomatch z))]; exact eb
def Ln (i:Nat) (ρ:aq):aq:=match ρ[i]? with
 | some (some (.nest (.dct ks ds)))=>match j9 ks ds with
  | some al=>setV i (oU al) ρ
  | none=>ρ
 | _=>ρ
def vD (i:Nat) (F:cw):cw:=fun k ρ=>F k (Ln i ρ)
theorem Lv {X:Cx} {st:List Th} {F:cw} (i:Nat) (h:zo X st F):zo X st (vD i F):=fun Hb Ob pins s σ H E I ⟨O,ρ,k,r,S,hF,hk⟩=>by
 unfold vD Ln at hF;split at hF
 ·rename_i ks ds hd;split at hF
  ·rename_i al hal;obtain⟨f1,f2⟩:=i7 hal;subst f1 f2;obtain⟨a,bs,h1,h2,h3,h4,h5⟩:=S.nst i _ hd;obtain⟨kvs,hH,ek,ev,hO⟩:=tE h2;obtain⟨na,_⟩:=List.nodup_cons.mp h3;have fin:∀ (H0:Hp) (I0:Inv X pins σ H0 s),H0 a=some (.dT kvs)->(∀ b,b≠a->H0 b=H b)->Te (model X.prog X.w) X.A (execs st X.env) (SP X pins E) X.xe s:=fun H0 I0 ha0 hH0=>by
    obtain⟨o,I1⟩:=Kh I0 ha0;have hH':∀ b,b≠a->upd H0 a (.frz o (.dT kvs)) b=H b:=fun b nb=>by rw [aE nb]; exact hH0 b nb
    have tab:aX.tab (upd H0 a (.frz o (.dT kvs))):=by
     have:upd H0 a (.frz o (.dT kvs))=upd H a (.frz o (.dT kvs)):=by
      funext b;by_cases z:b=a
      ·rw [z,aQ,aQ]
      ·rw [aE z,aE z,hH0 b z]
     rw [this];obtain⟨u,q1,q2⟩:=S.env.all.2 a (h4 a O6).1;exact aX.own S.env.all.1 q1 q2
    refine h Hb Ob pins s σ _ E I1 ⟨_,_,k,r,S.frzG hd h1 h4 h5 hH' tab fun sm nn=>?_,hF,hk⟩;have hO':mK X.K (upd H0 a (.frz o (.dT kvs))) O bs (al.map (·.2)):=hO.mono (fun b u e=>by
     unfold hid at e ⊢;by_cases hb:b∈O
     ·rw [if_pos hb] at e; cases e
     ·rw [if_neg hb] at e;rw [if_neg hb,hH' b fun z=>hb (by rw [z]; exact(h4 a O6).1)]; exact e) fun b hb _=>hH' b fun z=>na (by rw [<- z]; exact hb)
    have sub:∀ b∈O.filter (fun b=>decide (b∉a::bs)),b∈O:=fun b hb=>(List.mem_filter.mp hb).1;have g:=hO'.den (iI sub) fun b hb=>nn b (O7 _ hb);refine L7.mpr ⟨a,_,rfl,g,.inr (.inr ⟨kvs,o,by rw [jV (nn a O6)]; exact aQ,by rw [ue ek],ev.symm⟩)⟩
   rcases hH with hH | ⟨hH,z⟩
   ·exact fin H I hH fun _ _=>rfl
   ·subst z;exact fin _ (Ds I hH) aQ fun b nb=>aE nb
  ·exact h Hb Ob pins s σ H E I ⟨O,ρ,k,r,S,hF,hk⟩
 ·exact h Hb Ob pins s σ H E I ⟨O,ρ,k,r,S,hF,hk⟩
end TG
namespace TG
open PySem PySem.Spec L2
section
variable {prog:S0} {w:SZ} {A:Tb} {E:SY->Tc->Prop} {s:Tc} {it d:S3} {i ep:Nat} {o:Obj} {es:Array UK}
theorem BK {Q:SY->Tc->Prop} (hd:(d==sysModules)=false) (ho:s.heap.get? d=some o) (hx:o.ExactDict) (hdat:o.data=.dict es ep)
  (hQ:Q (.ref s.heap.objs.size) { s with heap:=s.heap.push { cls:=.type "dict_keyiterator",data:=.fields #[.ref d,.int 0 0,.int es.size 0,.int ep 0] } }):Te (model prog w) A (pyIter (.ref d)) Q E s:=by
 have hT:s.TypeIs (.ref d) "dict":=⟨o,ho,hx.1⟩
 refine wpAny_pyIter_slot hT F.slot_dict_iter (T7 F.slot_dict_iter hT F.entry_dict_iter ?_ (F.args_dict_iter_1 _));unfold Builtin.«dict.__iter__»; refine Tp ?_; unfold Builtin.Dict.dictSlotNone; refine Tp (UI hT ?_);show Te _ _ (pure (Value.ref d)) _ _ s; refine To ?_; show Te _ _ (Builtin.Dict.showsAll d >>= _) _ _ s; unfold Builtin.Dict.showsAll; rw [if_neg (by rw [hd]; exact Pn)];refine Tp (To (Tp (UJ ho hdat (Tp (UL ho hdat ?_)))));refine Tp (T9 (To ⟨_,rfl,"dict_keyiterator",_,⟨_,Sq _ rfl,rfl⟩,F.slot_dict_keyiterator_next.lookup,?_⟩)); simpa [rawInt] using hQ
theorem Cj {Q:Option SY->Tc->Prop} (hit:s.heap.IsKeyIter it d i es.size ep) (hod:s.heap.get? d=some o) (hdd:o.data=.dict es ep) (hlt:i < es.size)
  (hQ:∀ h',h'.IsKeyIter it d (i+1) es.size ep->Sl it s.heap h'->Q (some es[i].key) { s with heap:=h' }):Te (model prog w) A (pyNext (.ref it)) Q E s:=by
 obtain⟨oi,ho,hc,hd⟩:=id hit;unfold pyNext;refine Tp (Uw (T6 (name:=Str.ofString "__next__") hit.typeIs F.slot_dict_keyiterator_next (T7 F.slot_dict_keyiterator_next hit.typeIs F.entry_dict_keyiterator_next ?_ (F.args_dict_keyiterator_next_1 _))));refine Tp (To (Tp (Tp ?_))); first | refine Tp (UT hit.typeIs (To ?_)) | refine Tp (UU hit.typeIs (To ?_))
 refine Tp (UQ ho hd ?_); have hown:Builtin.Dict_items.ownsTuple "dict_keyiterator"=false:=by decide
 simp only [hown,P9,if_false]; show Te _ _ (if (Value.ref d==Value.none)=true then _ else _) _ _ s; rw [if_neg (show ¬ ((Value.ref d==Value.none)=true) from Pn)];refine Tp (To (Tp (UJ hod hdd ?_))); rw [if_neg (by simp)];refine Tp (To (Tp (UL hod hdd ?_))); rw [if_neg (by simp)];refine To ?_; simp only [show ¬ ((i:Int) < 0) from by omega,if_false,PL,Array.getElem?_eq_getElem hlt];refine Tp ?_; first | refine Tp (UT hit.typeIs (To ?_)) | refine Tp (UU hit.typeIs (To ?_))
 refine Tp (wpAny_isOneOf_keyiter hit.typeIs ?_); show Te _ _ (setField (.ref it) 1 (rawInt ((i:Int)+1)) >>= _) _ _ s; refine Tp (Ul ho hd (by simp) ?_);have hit':(s.heap.update it (Obj.mapFields (·.setIfInBounds 1 (rawInt ((i:Int)+1))))).IsKeyIter it d (i+1) es.size ep:=⟨_,Ss _ ho (Obj.isFreed_of_fields (Obj.data_mapFields hd _)),(Obj.cls_mapFields ..).trans hc,by rw [Obj.data_mapFields hd]; simp [rawInt]⟩
 refine Tp (T5 (Tp (wpAny_isOneOf_keyiter (s:={ s with heap:=s.heap.update it (Obj.mapFields (·.setIfInBounds 1 (rawInt ((i:Int)+1)))) }) hit'.typeIs ?_))); show Te _ _ (pure es[i].key) _ _ _;exact To (To ⟨_,rfl,To (hQ _ hit' (Heap.SameBut.update ..))⟩)
theorem Fk {Q:Option SY->Tc->Prop} (hh:A.handled=none) (hit:s.heap.IsKeyIter it d i es.size ep) (hod:s.heap.get? d=some o) (hdd:o.data=.dict es ep) (hge:es.size<=i) (hQ:∀ h',Su it s.heap h'->Q none { s with heap:=h' }):Te (model prog w) A (pyNext (.ref it)) Q E s:=by
 obtain⟨oi,ho,hc,hd⟩:=id hit;unfold pyNext;refine Tp (Uw (T6 (name:=Str.ofString "__next__") hit.typeIs F.slot_dict_keyiterator_next (T7 F.slot_dict_keyiterator_next hit.typeIs F.entry_dict_keyiterator_next ?_ (F.args_dict_keyiterator_next_1 _))));refine Tp (To (Tp (Tp ?_))); first | refine Tp (UT hit.typeIs (To ?_)) | refine Tp (UU hit.typeIs (To ?_))
 refine Tp (UQ ho hd ?_); have hown:Builtin.Dict_items.ownsTuple "dict_keyiterator"=false:=by decide
 simp only [hown,P9,if_false]; show Te _ _ (if (Value.ref d==Value.none)=true then _ else _) _ _ s; rw [if_neg (show ¬ ((Value.ref d==Value.none)=true) from Pn)];refine Tp (To (Tp (UJ hod hdd ?_))); rw [if_neg (by simp)];refine Tp (To (Tp (UL hod hdd ?_))); rw [if_neg (by simp)];refine To ?_; simp only [show ¬ ((i:Int) < 0) from by omega,if_false,PL,Array.getElem?_eq_none hge];refine Tp ?_; first | refine Tp (UT hit.typeIs (To ?_)) | refine Tp (UU hit.typeIs (To ?_))
 show Te _ _ (setField (.ref it) 0 .none >>= _) _ _ s; refine Tp (Ul ho hd (by simp) ?_);show Te _ _ (newExc (.type "StopIteration") [] >>= _) _ _ _; refine Tp ?_; simp only [newExc,newTuple]; refine Tp (T9 ?_ (by size_fits));refine Tp (m:=firstArgMember _ _) (wpAny_of_eq (a:=Value.none) (by first | rfl | (simp only [firstArgMember]; rfl)) ?_); refine T9 ?_ (by size_fits);simp only [raiseNew]; refine Tp (Um ?_); rw [show A.in1.handled=none from hh]; refine Tp (To (wpAny_throw ?_));refine Tp (Ux (T := "StopIteration") (b:=true) ⟨_,Sq _ rfl,rfl⟩ Uy ?_); exact To (hQ _ (((Heap.SameBut.update ..).extBut.push _).push _))
def Ip (d:S3) (o:Obj) (es:Array UK) (ep:Nat) (h:S5):Prop:=h.get? d=some o/\o.ExactDict/\o.data=.dict es ep
theorem Av (hh:A.handled=none) (I:S3) (hne:d≠I):Walks prog w A I [I,d] [I] es.size (fun i v=>∃ e,es[i]?=some e/\v=e.key) (fun i h=>h.IsKeyIter I d i es.size ep/\Ip d o es ep h) where
 sub:=fun b hb=>by simp at hb; simp [hb]
 frame:=fun _ _ _ st hk=>⟨st.1.at fun o e=>hk I (by simp) o e,hk d (by simp) _ st.2.1,st.2.2⟩
 item:=fun i s Q E hi st hQ=>Cj st.1 st.2.1 st.2.2.2 hi fun h' hit' hs'=>hQ _ h' s.toks ⟨es[i],by simp [hi],rfl⟩ ⟨hit',(hs'.2 d hne).trans st.2.1,st.2.2⟩ fun b o hb e=>hs'.extBut b o (fun h=>hb (by simp [h])) e
 done:=fun s Q E st hQ=>Fk hh st.1 st.2.1 st.2.2.2 (Ph _) fun h' he'=>hQ h' s.toks fun b o hb e=>he' b o (fun h=>hb (by simp [h])) e
 self:=fun _ _ _ _ st hQ=>wpAny_pyIter_keyiter st.1 hQ
theorem EX (lo:(d==sysModules)=false):PySem.W.KdlSrc prog w "dict" d d es.size (fun i v=>∃ e,es[i]?=some e/\v=e.key) (Ip d o es ep) where
 type:=fun _ hm=>⟨o,hm.1,hm.2.1.1⟩
 there:=fun _ hm=>⟨Si hm.1,Si hm.1⟩
 keep:=fun _ _ hm hk=>⟨hk d (.inl rfl) o hm.1,hm.2⟩
 notList:=by decide
 notTuple:=by decide
 hint:=fun _ _ _ _ hm hq=>PySem.W.kdl_hint_dict ⟨o,hm.1,hm.2.1.1⟩ hq
 iter:=fun _ _ hh hm=>⟨_,_,(fun _ _ hq=>BK lo hm.1 hm.2.1 hm.2.2 hq),Av (ep:=ep) (o:=o) hh _ (O1 (Si hm.1)),⟨⟨_,Sq _ rfl,rfl,rfl⟩,Sn _ hm.1,hm.2⟩⟩
end
variable [aX]
def Fx:List D->List D->Option (List (List Key×D))
 | .non::ks,ds=>j9 ks ds
 | ks,ds=>j9 ks ds
theorem Bf {K:RL} {H:Hp} {v:V} {ks ds:List D} {al:List (List Key×D)} (h:cY K H (.dct ks ds) v) (e:Fx ks ds=some al) :
  ∃ a,v=.ref a/\((∃ kvs:List (List Key×V),Rd H a (.dT kvs)/\kvs.map (·.1)=al.map (·.1)/\aZ K H (al.map (·.2)) (kvs.map (·.2)))\/(H a=some (.dK [])/\al=[])):=by
 unfold Fx at e;split at e
 ·obtain⟨f1,f2⟩:=i7 e;subst f1 f2;obtain⟨a,o,kvs,q1,q2,q3,q4⟩:=xS h;exact⟨a,q1,.inl ⟨kvs,.inr ⟨o,q2⟩,q3,q4⟩⟩
 ·obtain⟨f1,f2⟩:=i7 e;subst f1 f2;obtain⟨a,q1,q2⟩:=zk h;rcases q2 with ⟨kvs,q2,q3⟩ | q2
  ·exact⟨a,q1,.inl ⟨kvs,.inl q2,q3⟩⟩
  ·exact⟨a,q1,.inr q2⟩
section
variable {X:Cx}
def nh:List D->Option D
 | [.dct ks ds]=>(Fx ks ds).bind fun al=>some (.lst (encK al))
 | _=>none
theorem ER {pins:List (S3×Obj)} {σ:St} {H:Hp} {s:Tc} (I:Inv X pins σ H s) {a:S3} {kvs:List (List Key×V)} (e:Rd H a (.dT kvs)):kvs.length<=S6/\(a==sysModules)=false/\∃ o es ep,Ip a o es ep s.heap/\es.size=kvs.length/\∀ (i:Nat) u,es[i]?=some u->∃ b q,u.key=.ref b/\kvs[i]?.map (·.1)=some q/\H b=some (.tup (q.map kV)):=by
 obtain⟨z,hd,xs,rel,o,es,ep,h1,h2,h3,h4,_⟩:=yB I.hok e;have hl:es.size=kvs.length:=by rw [<- Array.length_toList,h4,Pr]; exact(Paired.length rel).symm
 refine⟨z,hd,o,es,ep,⟨h1,h2,h3⟩,hl,fun i u eu=>?_⟩;have hi:i < kvs.length:=by
  have:=(Array.getElem?_eq_some_iff.mp eu).1
  omega
 obtain⟨x,ex,f1,f2,f3⟩:=tu rel (i:=i) (x:=kvs[i]) (by simp [hi])
 have:es.toList[i]?=some (entryOfKey (tupleKind (cn X.prog X.w)) x):=by rw [h4,PF,ex]; rfl
 rw [Array.getElem?_toList,eu] at this;cases this;exact⟨x.2.1,kvs[i].1,rfl,by simp [hi],f2⟩
theorem tV (hc:X.calm=true):eA X (.type "list") (xP X.K nh):=by
 intro pins s σ H xs us Q I r ⟨O,ds,d,hO,hd,hg,q⟩;unfold nh at hg;split at hg
 ·rename_i ks vs0;cases hk:Fx ks vs0 with
  | none=>rw [hk] at hg; cases hg
  | some al =>
   rw [hk] at hg;cases hg;obtain⟨v,ev,h1⟩:=hd.one;subst ev;obtain⟨a,ea,hh⟩:=Bf h1 hk;subst ea;obtain⟨u,rfl,ru⟩:=vals1 r;cases ru;have fin:∀ (H0:Hp) (kvs:List (List Key×V)),Inv X pins σ H0 s->Rd H0 a (.dT kvs)->kvs.map (·.1)=al.map (·.1)->(∀ b ys,H0 b=some (.tup ys)->H b=some (.tup ys))->Te (model X.prog X.w) X.A (call (.type "list") [.ref a]) (EP X pins σ Q) X.xe s:=fun H0 kvs I0 hr hk2 ht=>by
    obtain⟨z,hs,o,es,ep,raw,hsz,hkey⟩:=ER I0 hr;have hl:al.length=kvs.length:=(by have:=congrArg List.length hk2; simpa using this.symm);refine Sd (EX hs) (I.ok.hd hc) raw (by rw [hsz]; exact z) fun h' tk acc' c' kp e2 it=>?_;have key:∃ ws:List V,Vals ws acc'.toList/\aZ X.K (hid H O) (encK al) ws:=by
     have hlen:acc'.toList.length=al.length:=(by rw [Array.length_toList,it.1,hsz,hl]);have each:∀ (j:Nat) (u:SY),acc'.toList[j]?=some u->∃ b q,u=.ref b/\al[j]?.map (·.1)=some q/\H b=some (.tup (q.map kV)):=fun j u e=>by
      obtain⟨en,e3,e4⟩:=it.2 j u (by rw [<- Array.getElem?_toList]; exact e);obtain⟨b,q,w1,w2,w3⟩:=hkey j en e3;refine⟨b,q,by rw [e4,w1],?_,ht _ _ w3⟩
      have:=congrArg (fun l=>l[j]?) hk2
      simp only [PF] at this;rw [<- this]; exact w2
     clear it e2;generalize acc'.toList=us at hlen each;clear hk hl hk2 h1 hh q
     induction us generalizing al with
     | nil =>
      cases al with
      | nil=>exact⟨[],.nil,cZ.mpr rfl⟩
      | cons _ _=>cases hlen
     | cons u us ih =>
      cases al with
      | nil=>cases hlen
      | cons p al =>
       obtain⟨ws,w1,w2⟩:=ih (al:=al) (by simpa using hlen) fun j u e=>by
        have:=each (j+1) u (by rw [QC]; exact e)
        rw [QC] at this; exact this
       obtain⟨b,q,e1,e2,e3⟩:=each 0 u rfl;cases e2;have bO:b∉O:=fun z=>by
        obtain⟨u',q1,q2⟩:=hO.2 b z;rw [e3] at q1; cases q1; exact q2
       exact⟨.ref b::ws,.cons (by rw [e1]; rfl) w1,bB.mpr ⟨.ref b,ws,rfl,cJ.mpr ⟨b,_,rfl,by rw [jV bO]; exact e3,wJ p.1⟩,w2⟩⟩
    obtain⟨ws,rv,dn⟩:=key;have wl:ws.length<=S6:=(by rw [<- dn.length,Pr,hl]; exact z);refine⟨.ref s.heap.objs.size,_,I.laid (t':=tk) kp (Ph _) (show cK X.prog X.w _ h' _ (.lst ws) from ⟨wl,acc'.toList,c',rv,by simpa using e2⟩),rfl,?_⟩;have hf:=I.hok.fresh (Ph s.heap.objs.size);exact q _ _ (bF hf _) (dU hO hf dn)
   rcases hh with ⟨kvs,hr,e1,_⟩ | ⟨hr,e1⟩
   ·refine fin H kvs I ?_ e1 fun _ _ z=>z;rcases hr with hr | ⟨o,hr⟩
    ·exact .inl ((aB H O) _ _ hr)
    ·exact .inr ⟨o,(aB H O) _ _ hr⟩
   ·have ha:=(aB H O) _ _ hr;refine fin _ [] (Ds I ha) (.inl aQ) (by rw [e1]; rfl) fun b ys eb=>?_;by_cases z:b=a
    ·rw [z,aQ] at eb; cases eb
    ·rw [aE z] at eb; exact eb
 ·cases hg
end
end TG
namespace TG
open PySem PySem.Spec PySem.Calls L2
variable [aX]
def Ae (dd k:D):Option D:=match dd with
 | .dct ks ds=>(Fx ks ds).bind fun al=>(jH k).bind fun q=>qj al q
 | _=>none
theorem IT {H:Hp} {O:List S3} {a:S3} {u:HO} (h:Rd (hid H O) a u):Rd H a u:=by
 rcases h with h | ⟨o,h⟩
 ·exact .inl ((aB H O) _ _ h)
 ·exact .inr ⟨o,(aB H O) _ _ h⟩
section
variable {X:Cx}
theorem NK {o e:Tf} {fo fk:FX} {pos:Pos} (hu:X.A.units+64 < TJ) (ho:FE X o fo) (hi:FE X e fk) (hs:G5 e):FE X (.Subscript o e pos) (f2 Ae fo fk) :=
 PE.weak (GW ‹0› ho hi hs) fun σ H Q ⟨O,ρ,E,hF⟩=>⟨O,ρ,E,(jw.bind hF).imp fun dd hF v H1 s1 d1=>⟨O,ρ,E.same s1,((jw.bind hF).mono s1).imp fun k hF y H2 s2 d2=>by
  obtain⟨d,hg,q⟩:=jw.rO hF;cases dd with
  | dct ks ds =>
   have hg:(Fx ks ds).bind (fun al=>(jH k).bind fun q=>qj al q)=some d:=hg;cases hk:Fx ks ds with
   | none=>rw [hk] at hg; cases hg
   | some al =>
    rw [hk] at hg;cases ht:jH k with
    | none=>rw [ht] at hg; cases hg
    | some qk =>
     rw [ht] at hg;have hg:qj al qk=some d:=hg;obtain⟨a,ea,hh⟩:=Bf (d1.mono (cf s2)) hk;rw [oj ht] at d2;obtain⟨b,ws,eb,g1,g2⟩:=cJ.mp d2;rw [jp g2] at g1;rcases hh with ⟨kvs,hr,e1,e2⟩ | ⟨_,rfl⟩
     ·rcases y9 qk e1 e2 with ⟨_,z2⟩ | ⟨w,d',z1,z2,z3⟩
      ·rw [z2] at hg; cases hg
      ·rw [z2] at hg; cases hg;exact⟨a,w,ea,by rw [<- z1]; exact .inr ⟨kvs,qk,b,IT hr,eb,(aB H2 O) _ _ g1,rfl⟩,q w H2 (s1.trans s2) z3⟩
     ·cases hg
  | _=>cases hg⟩⟩
end
def EE (i:Nat) (f:FX):cw:=fun k ρ=>match ρ[i]? with
 | some (some (.own (.lst xs)))=>uA (f ρ) k ρ fun d=>match d with
  | .lst ys=>if small (xs.length+ys.length) then k.nx (ρ.set i (some (.own (.lst (xs++ys))))) else un
  | _=>un
 | _=>un
theorem NQ {X:Cx} {i:Nat} {x:Str} {e:Tf} {f:FX} {npos apos cpos pos:Pos} (hx:PE X (.Name x npos) (ux i)) (he:FN X e f) (hns:noStar e=true:=by rfl)
  (hbase:TB (.Name x npos) "extend" X.env (eval (.Name x npos) X.env)=eval (.Name x npos) X.env:=by rfl)
  (hfew:((backTo cpos (Tg [e] X.env)).all (fun x=>!x.1) && (backToKw cpos (TF [] X.env)).all (fun x=>x.1.isSome) && decide (([e]:List Tf).length+([]:List Uc).length+(if ([]:List Uc).isEmpty then 0 else 1) < 30))=true:=by rfl)
  (hline:(apos.endLine==cpos.line)=true:=by rfl) (hplain:(backTo cpos (Tg [] X.env)).any (·.1)=false:=by rfl)
  (hsw:swapsWith (.Call (.Attribute (.Name x npos) "extend" apos) [e] [] cpos) none pos.line X.env=pure false:=by rfl) :
  FS X (.Expr (.Call (.Attribute (.Name x npos) "extend" apos) [e] [] cpos) pos) (EE i f):=fun Hb Ob pins s σ H E I ⟨O,ρ,k,rr,S,hF,hk⟩=>by
 unfold EE at hF;split at hF
 ·rename_i xs hxs;obtain⟨a,ha,haO,hat⟩:=S.env.own i _ hxs;obtain⟨o,vs0,ho,eo,dn⟩:=hat;subst eo;refine wI (A9 F.plainAttrs_list F.slot_list_extend F.type_list_extend Cz hx (lG he qf (dH hns)) hbase hfew hline (dH hns) hplain) hsw pins s σ H E I ⟨.ref a,ha,.inl ⟨rfl,vs0,oZ.of ho⟩,O,ρ,S.env,jw.on hF hk S fun d hr p H1 s1 hp m own=>?_⟩;have S1:=S.same s1;cases d with
  | lst ys =>
   have hr:(if small (xs.length+ys.length) then k.nx (ρ.set i (some (.own (.lst (xs++ys))))) else un)=rr:=hr;cases hsm:small (xs.length+ys.length) with
   | false=>rw [hsm] at hr; exact absurd hr.symm hk.ne
   | true =>
    rw [hsm] at hr;obtain⟨o,zs,h1,h2,h3⟩:=own;subst h2;have dz:aZ X.K (hid H1 O) ys zs:=h3.mono (iI fun b hb=>O7 _ hb);have hz:=eN hsm;exact⟨a,p,vs0,zs,rfl,rfl,s1 _ _ ho,h1,by rw [<- dn.length,<- dz.length]; exact hz,hk.nx O _ σ _ (S1.setO hxs ha trivial (qV haO ((dn.mono (cf s1)).append dz))) hr⟩
  | _=>exact absurd (show un=rr from hr).symm hk.ne
 ·exact absurd hF.symm hk.ne
def tO:List D->Option D
 | [.lst xs]=>(iR xs).bind fun ps=>if small ps.length then some (oU (vJ ps)) else none
 | _=>none
section
variable {X:Cx}
theorem Ay (hc:X.calm=true) (hu:X.A.units+64 < TJ):eA X (.type "dict") (xP X.K tO):=by
 intro pins s σ H xs us Q I r ⟨O,ds,d,hO,hd,hg,q⟩;unfold tO at hg;split at hg
 ·rename_i ys;cases hp:iR ys with
  | none=>rw [hp] at hg; cases hg
  | some ps =>
   rw [hp] at hg;obtain⟨sm,rfl⟩:=bH (show (if small ps.length then some (oU (vJ ps)) else none)=some d from hg);obtain⟨v,rfl,h1⟩:=hd.one;obtain⟨p,ws,rfl,g1,g2⟩:=cI.mp h1;obtain⟨u,rfl,ru⟩:=vals1 r;cases ru;obtain⟨its,rv,⟨o,n,ho,hcl,hd',hdd⟩,hz⟩:=I.list ((aB H O).seq g1);rw [qI hp] at g2;obtain⟨L,ks,l1,l2,l3,l4,l5⟩:=qN I g2 rv;have kl:ks.length=ps.length:=(by have:=congrArg List.length l4; simpa using this);have ll:ks.length=L.length:=Paired.length l3;have key:∀ {ks:List (List Key×V)} {L:List (List Key×S3×SY)},KT H ks L->∀ x∈L,∀ h,Keeps s.heap h->(tupleKind (cn X.prog X.w)).is h x.1 x.2.1:=fun {ks L} kt=>by
    induction kt with
    | nil=>intro x hx; cases hx
    | cons hq _ ih =>
     intro x hx h kh;rcases List.mem_cons.mp hx with z | z
     ·subst z;obtain⟨e1,e2,_⟩:=hq;rw [e1] at e2;obtain⟨o,xs,n,k1,k2⟩:=oR I.hok e2;exact⟨o,xs,n,kh _ _ k1,k2⟩
     ·exact ih x z h kh
   obtain⟨f1,f2,f3,f4⟩:=uh (K:=X.K) (H:=H) (H0:=hid H O) (al:=[]) (kvs:=[]) (xs:=[]) l3 l4 l5 .nil rfl (cZ.mpr rfl);have hsz:ps.length<=100000:=of_decide_eq_true sm;have sl:S6=16777216:=Tx;refine mC (knd:=tupleKind (cn X.prog X.w)) (L:=L) ho hcl hdd hd' (I.ok.hd hc) (Ud (by rw [in1_units]; omega)) (by simpa using l1) ‹0› (fun i v e=>l2 i v (by simpa using e)) (key l3) fun h' tk kp di=>?_;have hf:=I.hok.fresh (Ph s.heap.objs.size);obtain⟨⟨od,es,ep,k1,k2,k3,k4,k5⟩,_⟩:=di;have kt':KT (upd H s.heap.objs.size (.frz od (.dT (ks.foldl (fun m p=>putK m p.1 p.2) [])))) (ks.foldl (fun m p=>putK m p.1 p.2) []) (L.foldl (fun xs x=>storedH xs x.1 x.2.1 x.2.2) []):=KT.keeps f1 fun b ys eb=>by rw [aE (fun z=>by rw [z,hf] at eb; cases eb)]; exact eb
   refine⟨.ref s.heap.objs.size,_,I.laid (t':=tk) kp (Ph _) (show cK X.prog X.w _ h' _ (.frz od (.dT (ks.foldl (fun m p=>putK m p.1 p.2) []))) from ⟨k1,by simp only [P0] at f4; omega,beq_eq_false_iff_ne.mpr (Ne.symm (O1 I.big)),_,kt',od,es,ep,k1,k2,k3,k4,k5⟩),rfl,?_⟩;refine q _ _ (bF hf _) ?_;have pO:=hO.not hf;refine L7.mpr ⟨s.heap.objs.size,_,rfl,f3.mono (se hf),.inr (.inr ⟨_,od,by rw [jV pO]; exact aQ,congrArg _ (ue f2),rfl⟩)⟩
 ·cases hg
end
end TG
namespace TX
open PySem PySem.Spec L2 TG
variable [aX]
structure XE (X:Cx) (e:Tf) (F:FX):Prop where h:FE X e F
structure XT (X:Cx) (e:Tf) (F:aq->R Bool):Prop where h:FT X e F
structure XW (X:Cx) (e:Tf) (F:aq->R Bool):Prop where h:FW X e F
structure XA (X:Cx) (e:List Tf) (F:aq->R (List D)):Prop where h:FA X e F
structure XS (X:Cx) (e:Th) (F:cw):Prop where h:FS X e F
structure Am (X:Cx) (e:List Th) (F:cw):Prop where h:zo X e F
structure XI (X:Cx) (t e:Tf) (F:aq->R (List D)):Prop where h:FI X t e F
structure XG (X:Cx) (e:Tf) (F:GF):Prop where h:FG X e F
structure L8 (X:Cx) (e:List Tf) (F:Dj):Prop where h:Kz X e F
structure XO (X:Cx) (e:Option Tf) (F:aq->R (Option Int)):Prop where h:FO X e F
structure XN (X:Cx) (e:Tf) (F:FX):Prop where h:FN X e F
structure NB (X:Cx) (e:List Tf) (F:aq->R Bool):Prop where h:Ml X e F
structure XV (X:Cx) (e:Tf) (i:Nat):Prop where h:PE X e (ux i)
structure XB (X:Cx) (scope:Td) (N:List Str) (tg elt:Tf) (ifs:List Tf) (g:GF) (C:aq->R Bool) (Fe:FX) (cl:List (Str×S3)) (C':S3) (fp:List S3) (s:Tc) (H:Hp) (E:SY->Tc->Prop):Prop where
 a:XG (cS X scope N cl C' fp s H E) tg g
 b:NB (cS X scope N cl C' fp s H E) ifs C
 c:XE (cS X scope N cl C' fp s H E) elt Fe
structure D5 (X:Cx) (scope:Td) (N:List Str) (tg elt:Tf) (ifs:List Tf) (g:GF) (C:aq->R Bool) (Fe:FX):Prop where
 q:∀ cl C' fp s H E,XB X scope N tg elt ifs g C Fe cl C' fp s H E
theorem D5.h {X:Cx} {scope:Td} {N:List Str} {tg elt:Tf} {ifs:List Tf} {g:GF} {C:aq->R Bool} {Fe:FX} (x:D5 X scope N tg elt ifs g C Fe):JX X scope N tg elt ifs g C Fe:=fun cl C' fp s H E=>⟨(x.q cl C' fp s H E).a.h,(x.q cl C' fp s H E).b.h,(x.q cl C' fp s H E).c.h⟩
theorem xv {X:Cx} (i:Nat) {x:Str} {pos:Pos} (hN:X.N[i]?=some x:=by rfl) (hv:HY X.env.scope x:=by first | exact Or.inl rfl | exact Or.inr (Or.inl rfl) | exact Or.inr (Or.inr rfl)) (hd:(x==("__debug__":Str))=false:=by decide)
  (hcd:(x==("__classdict__":Str))=false:=by decide):XV X (.Name x pos) i:=⟨pv i hN hv hd hcd⟩
theorem Fw {X:Cx} {e:Tf} {f:aq->R Bool} (h:XW X e f):XT X e f:=⟨FW.ft h.h⟩
section
variable [aX] {X:Cx}
theorem ae {i:Nat} {x:Str} {pos:Pos} (h:XV X (.Name x pos) i):XE X (.Name x pos) (ah i):=⟨TG.MR h.h⟩
end
section
variable [aX] {X:Cx}
theorem ai {i j pos}:XE X (.Constant (.int i) j pos) (fC (.int i)):=⟨TG.M5 ⟩
end
section
variable [aX] {X:Cx}
theorem gw {b j pos}:XE X (.Constant (.bool b) j pos) (fC (.bl b)):=⟨TG.Ox ⟩
end
section
variable [aX] {X:Cx}
theorem eE {x j pos}:XE X (.Constant (.str x) j pos) (fC (.str x)):=⟨TG.NF ⟩
end
section
variable [aX] {X:Cx}
theorem aj :XA X [] au:=⟨TG.Jd ⟩
end
section
variable [aX] {X:Cx}
theorem aa {e:Tf} {es:List Tf} {f:FX} {g:aq->R (List D)} (he:XE X e f) (hs:XA X es g) (hns:noStar e=true:=by rfl):XA X (e::es) (af f g):=⟨TG.Ge he.h hs.h hns⟩
end
section
variable [aX] {X:Cx}
theorem bx {es:List Tf} {g:aq->R (List D)} {k pos} (h:XA X es g):XE X (.Tuple es k pos) (cy g):=⟨TG.Nh h.h⟩
end
section
variable [aX] {X:Cx}
theorem lK {es:List Tf} {g:aq->R (List D)} {pos} (h:XA X es g):XE X (.List es pos) (kU g):=⟨TG.NI h.h⟩
end
section
variable [aX] {X:Cx}
theorem ao {a b:Tf} {op:Operator} {r:R2} {g:D->D->Option D} {fa fb:FX} {pos:Pos} (ho:mr X (Tu op) r) (s:eQ X.K r g) (ha:XE X a fa) (hb:XE X b fb):XE X (.BinOp a op b pos) (f2 g fa fb):=⟨TG.Mw ho s ha.h hb.h⟩
end
section
variable [aX] {X:Cx}
theorem nW {a b:Tf} {op:CmpOp} {r:R2} {g:D->D->Option D} {fa fb:FX} {pos:Pos} (ho:mr X (Tv op) r) (s:eQ X.K r g) (ha:XE X a fa) (hb:XE X b fb) (hm:Tw op b=false):XE X (.Compare a [op] [b] pos) (f2 g fa fb):=⟨TG.Np ho s ha.h hb.h hm⟩
end
section
variable [aX] {X:Cx}
theorem bX {a b:Tf} {op:CmpOp} {r:R2} {g:D->D->Option D} {fa fb:FX} {pos:Pos} (ho:mr X (Tv op) r) (s:eQ X.K r g) (ha:XE X a fa) (hb:XE X b fb) (hm:Tw op b=false):XT X (.Compare a [op] [b] pos) (fB (f2 g fa fb)):=⟨TG.M1 ho s ha.h hb.h hm⟩
end
section
variable [aX] {X:Cx} {a b c:Tf} {rest:List Tf} {pos:Pos} {f g:aq->R Bool}
theorem gK (h:XT X a f):XT X (.UnaryOp .Not a pos) (jJ f):=⟨TG.MQ h.h⟩
end
section
variable [aX] {X:Cx} {a b c:Tf} {rest:List Tf} {pos:Pos} {f g:aq->R Bool}
theorem iz (h:XT X a f):XW X (.BoolOp .Or [a] pos) f:=⟨TG.Nu h.h⟩
end
section
variable [aX] {X:Cx} {a b c:Tf} {rest:List Tf} {pos:Pos} {f g:aq->R Bool}
theorem j4 (ha:XT X a f) (hb:XW X (.BoolOp .Or (b::rest) pos) g):XW X (.BoolOp .Or (a::b::rest) pos) (xN f g):=⟨TG.Ov ha.h hb.h⟩
end
section
variable [aX] {X:Cx} {a b c:Tf} {rest:List Tf} {pos:Pos} {f g:aq->R Bool} {fa fb:FX}
theorem sd {op} (h:XE X a fa):XE X (.BoolOp op [a] pos) fa:=⟨TG.Nv h.h⟩
end
section
variable [aX] {X:Cx} {a b c:Tf} {rest:List Tf} {pos:Pos} {f g:aq->R Bool} {fa fb:FX}
theorem pH (ha:XE X a fa) (hb:XE X (.BoolOp .And (b::rest) pos) fb):XE X (.BoolOp .And (a::b::rest) pos) (o3 fa fb):=⟨TG.MX ha.h hb.h⟩
end
section
variable [aX] {X:Cx} {a b c:Tf} {rest:List Tf} {pos:Pos} {f g:aq->R Bool} {fa fb:FX}
theorem Hh (ha:XE X a fa):XE X (.UnaryOp .Not a pos) (x5 fa):=⟨TG.N4 ha.h⟩
end
section
variable [aX] {X:Cx}
theorem aH {a b:Tf} {fa fb:FX} {pos:Pos} (ha:XE X a fa) (hb:XE X b fb) (hs:wR b):XE X (.Subscript a b pos) (f2 aW fa fb):=⟨TG.Oh ha.h hb.h hs⟩
end
section
variable [aX] {X:Cx}
theorem dS :XO X none bj:=⟨TG.LY ⟩
end
section
variable [aX] {X:Cx}
theorem dQ {e:Tf} {f:FX} (h:XE X e f):XO X (some e) (cE f):=⟨TG.L9 h.h⟩
end
section
variable [aX] {X:Cx}
theorem cW {e:Tf} {f:FX} {l h:aq->R (Option Int)} {lo hi:Option Tf} {p2 pos:Pos} (he:XE X e f) (hl:XO X lo l) (hh:XO X hi h):XE X (.Subscript e (.Slice lo hi none p2) pos) (bK f l h):=⟨TG.KY he.h hl.h hh.h⟩
end
section
variable [aX] {X:Cx} {x:Str} {p pos:Pos} {e:Tf} {es:List Tf} {id T:String} {g:List D->Option D} {f:aq->R (List D)}
theorem bu (hc:eA X (.builtin id) (xP X.K g)) (hg:Gl X x) (hm:X.mg x=none) (hv:Ta x=some (.builtin id)) (ha:XA X (e::es) f) (hn:x ≠ "__name__":=by decide) (hdb:(x==("__debug__":Str))=false:=by decide) (hns:(e::es).all noStar=true:=by rfl):XE X (.Call (.Name x p) (e::es) [] pos) (fL g f):=⟨TG.Kn hc hg hm hv ha.h hn hdb hns⟩
end
section
variable [aX] {X:Cx} {x:Str} {p pos:Pos} {e:Tf} {es:List Tf} {id T:String} {g:List D->Option D} {f:aq->R (List D)}
theorem bP (hc:eA X (.type T) (xP X.K g)) (hg:Gl X x) (hm:X.mg x=none) (hv:Ta x=some (.type T)) (ha:XA X (e::es) f) (hn:x ≠ "__name__":=by decide) (hdb:(x==("__debug__":Str))=false:=by decide) (hns:(e::es).all noStar=true:=by rfl):XE X (.Call (.Name x p) (e::es) [] pos) (fL g f):=⟨TG.JU hc hg hm hv ha.h hn hdb hns⟩
end
section
variable [aX] {X:Cx} {x:Str} {p pos:Pos} {e:Tf} {es:List Tf} {id T:String} {g:List D->Option D} {f:aq->R (List D)}
theorem gq {f:FX} {xT:Str} {p2:Pos} (ok:yM X.K T) (hg:Gl X "isinstance") (hm:X.mg "isinstance"=none) (hgT:Gl X xT) (hmT:X.mg xT=none) (hvT:Ta xT=some (.type T)) (he:XE X e f) (hn2:xT ≠ "__name__":=by decide) (hd2:(xT==("__debug__":Str))=false:=by decide) (hns:noStar e=true:=by rfl):XE X (.Call (.Name "isinstance" p) [e,.Name xT p2] [] pos) (ow T f):=⟨TG.MM ok hg hm hgT hmT hvT he.h hn2 hd2 hns⟩
end
section
variable [aX] {X:Cx} {a:Tf} {f:FX} {pos:Pos}
theorem cD (h:XE X a f) (he:∀ whole,isTrue a X.env whole=(do let v <- whole; standAt a.pos; holding [v] (truthy v)):=by intro _; rfl):XT X a (cO f):=⟨TG.Kv h.h he⟩
end
section
variable [aX] {X:Cx} {tg:Tf}
theorem dN {e:Tf} {f:FX} (h:XE X e f):XI X tg e (bZ f):=⟨TG.Nc h.h⟩
end
section
variable [aX] {X:Cx} {tg:Tf}
theorem jE {a:Tf} {f:aq->R (List D)} {p pos:Pos} (hg:Gl X "range") (hm:X.mg "range"=none) (ha:XA X [a] f) (hs:Tg [a] X.env=[(false,eval a X.env)]:=by rfl):XI X tg (.Call (.Name "range" p) [a] [] pos) (gl f):=⟨TG.JY hg hm ha.h hs⟩
end
section
variable [aX] {X:Cx} {tg:Tf}
theorem zx {a b:Tf} {f:aq->R (List D)} {p pos:Pos} (hg:Gl X "range") (hm:X.mg "range"=none) (ha:XA X [a,b] f) (hs:Tg [a,b] X.env=[(false,eval a X.env),(false,eval b X.env)]:=by rfl) (hs2:Tg [b] X.env=[(false,eval b X.env)]:=by rfl):XI X tg (.Call (.Name "range" p) [a,b] [] pos) (sg f):=⟨TG.JZ hg hm ha.h hs hs2⟩
end
section
variable [aX] {X:Cx} {pos:Pos}
theorem bg {i:Nat} {x:Str} (hN:X.N.Nodup) (hi:X.N[i]?=some x) (hx:Loc X.env.scope x) (hf:X.fn x=true\/X.env.scope.names.lookup x=some .local:=by first | exact .inl rfl | exact .inr rfl | assumption):XG X (.Name x pos) (gN i):=⟨TG.L5 hN hi hx hf⟩
end
section
variable [aX] {X:Cx} {pos:Pos}
theorem kN :L8 X [] Ft:=⟨TG.Lx ⟩
end
section
variable [aX] {X:Cx} {pos:Pos}
theorem dI {e:Tf} {es:List Tf} {g:GF} {h:Dj} (h1:XG X e g) (h2:L8 X es h) (hs:(assignEach (e::es) X.env).map (·.2)=assign e X.env::(assignEach es X.env).map (·.2):=by rfl):L8 X (e::es) (zN g h):=⟨TG.Lj h1.h h2.h hs⟩
end
section
variable [aX] {X:Cx} {pos:Pos}
theorem nQ {es:List Tf} {k:Nat} {g:Dj} {n:Nat} (hc:X.calm=true) (h:L8 X es g) (hn:(assignEach es X.env).length=n:=by rfl) (hst:(assignEach es X.env).findIdx? (·.1)=none:=by rfl):XG X (.Tuple es k pos) (gT n g):=⟨TG.N3 hc h.h hn hst⟩
end
section
variable [aX]
theorem fu {X:Cx}:NB X [] dZ:=⟨TG.Mi ⟩
end
section
variable [aX]
theorem su {X:Cx} {c:Tf} {F:aq->R Bool} (h:XT X c F):NB X [c] F:=⟨TG.LA h.h⟩
end
section
variable [aX] {X:Cx} {elt tg iter:Tf} {ifs:List Tf} {scope:Td} {pos:Pos} {N:List Str} {ix:List (Option Nat)} {G:aq->R (List D)} {g:GF} {C:aq->R Bool} {Fe:FX}
theorem jX (hc:X.calm=true) (ok:jc X scope N ix) (tk:rG ix g) (hi:XI X tg iter G) (hb:D5 X scope N tg elt ifs g C Fe) (hs:∀ x,Ts iter X.env x=pure x:=by intro _; rfl):XE X (.ListComp elt [⟨tg,iter,ifs,0⟩] scope pos) (kP ix G g C Fe):=⟨TG.Oj hc ok tk hi.h hb.h hs⟩
end
section
variable [aX] {X:Cx} {st:Th} {rest body:List Th} {pos:Pos}
theorem aV :Am X [] cG:=⟨TG.L3 ⟩
end
section
variable [aX] {X:Cx} {st:Th} {rest body:List Th} {pos:Pos}
theorem ak {F1 F2:cw} (h1:XS X st F1) (h2:Am X rest F2):Am X (st::rest) (aJ F1 F2):=⟨TG.J3 h1.h h2.h⟩
end
section
variable [aX] {X:Cx} {st:Th} {rest body:List Th} {pos:Pos}
theorem ay {F1:cw} (h1:XS X st F1):Am X [st] F1:=⟨TG.L1 h1.h⟩
end
section
variable [aX] {X:Cx} {st:Th} {rest body:List Th} {pos:Pos}
theorem aL {e:Tf} {f:FX} (h:XE X e f):XS X (.Return (some e) pos) (bG f):=⟨TG.NV h.h⟩
end
section
variable [aX] {X:Cx} {st:Th} {rest body:List Th} {pos:Pos}
theorem cx {c:Tf} {a b:List Th} {tc:aq->R Bool} {A B:cw} (hc:XT X c tc) (ha:Am X a A) (hb:Am X b B):XS X (.If c a b pos) (j3 tc A B):=⟨TG.Ou hc.h ha.h hb.h⟩
end
section
variable [aX] {X:Cx} {st:Th} {rest body:List Th} {pos:Pos}
theorem aK {i:Nat} {x:Str} {e:Tf} {f:FX} {pos':Pos} (hN:X.N.Nodup) (hi:X.N[i]?=some x) (hx:Loc X.env.scope x) (he:XE X e f) (hs:swapsWith e (some (.Name x pos')) pos.line X.env=pure false:=by rfl) (hf:X.fn x=true\/X.env.scope.names.lookup x=some .local:=by first | exact .inl rfl | exact .inr rfl | assumption):XS X (.Assign [.Name x pos'] e pos) (bR i f):=⟨TG.Od hN hi hx he.h hs hf⟩
end
section
variable [aX] {X:Cx} {st:Th} {rest body:List Th} {pos:Pos}
theorem Ij {elt tg iter:Tf} {ifs:List Tf} {scope:Td} {N:List Str} {ix:List (Option Nat)} {G:aq->R (List D)} {g:GF} {C:aq->R Bool} {Fe:FX} {i:Nat} {y:Str} {lpos py spos:Pos} (hN:X.N.Nodup) (hi':X.N[i]?=some y) (hx:Loc X.env.scope y) (hc:X.calm=true) (ok:jc X scope N ix) (tk:rG ix g) (hi:XI X tg iter G) (hb:D5 X scope N tg elt ifs g C Fe) (hsw:swapsWith (.ListComp elt [⟨tg,iter,ifs,0⟩] scope lpos) (some (.Name y py)) spos.line X.env=pure true:=by rfl) (hs:∀ x,Ts iter X.env x=pure x:=by intro _; rfl) (hf:X.fn y=true\/X.env.scope.names.lookup y=some .local:=by first | exact .inl rfl | exact .inr rfl | assumption):XS X (.Assign [.Name y py] (.ListComp elt [⟨tg,iter,ifs,0⟩] scope lpos) spos) (bR i (kP ix G g C Fe)):=⟨TG.Oy hN hi' hx hc ok tk hi.h hb.h hsw hs hf⟩
end
section
variable [aX] {X:Cx} {st:Th} {rest body:List Th} {pos:Pos}
theorem pR :XS X st vn:=⟨TG.LW ⟩
end
section
variable [aX] {X:Cx} {st:Th} {rest body:List Th} {pos:Pos}
theorem cN {st:List Th} {F:cw} (is:List Nat) (h:Am X st F):Am X st (fO is F):=⟨TG.KH is h.h⟩
end
section
variable [aX] {X:Cx} {st:Th} {rest body:List Th} {pos:Pos}
theorem eV {tg iter:Tf} {G:aq->R (List D)} {g:GF} {B:cw} (hp:Tr (model X.prog X.w) X.A X.env X.xe) (hc:X.calm=true) (hi:XI X tg iter G) (hg:XG X tg g) (hb:Am X body B) (hs:∀ x,Ts iter X.env x=pure x:=by intro _; rfl):XS X (.For tg iter body [] pos) (kM G g B):=⟨TG.ME hp hc hi.h hg.h hb.h hs⟩
end
section
variable [aX] {X:Cx} {pos:Pos}
theorem lP {es:List Tf} {g:aq->R (List D)} (h:XA X es g):XN X (.List es pos) (kU g):=⟨TG.MH h.h⟩
end
section
variable [aX] {X:Cx} {pos:Pos}
theorem DN {x:Str} {p:Pos} {e:Tf} {f:aq->R (List D)} (hg:Gl X x) (hm:X.mg x=none) (hv:Ta x=some (.type "list")) (ha:XA X [e] f) (hn:x ≠ "__name__":=by decide) (hdb:(x==("__debug__":Str))=false:=by decide) (hns:noStar e=true:=by rfl):XN X (.Call (.Name x p) [e] [] pos) (fL pN f):=⟨TG.LC hg hm hv ha.h hn hdb hns⟩
end
section
variable [aX] {X:Cx} {pos:Pos}
theorem qE :XN X (.Dict [] [] pos) vN:=⟨TG.Dt ⟩
end
section
variable [aX] {X:Cx} {pos:Pos}
theorem fV {i:Nat} {x:Str} {e:Tf} {f:FX} {pos':Pos} (hN:X.N.Nodup) (hi:X.N[i]?=some x) (hx:Loc X.env.scope x) (he:XN X e f) (hs:swapsWith e (some (.Name x pos')) pos.line X.env=pure false:=by rfl) (hf:X.fn x=true\/X.env.scope.names.lookup x=some .local:=by first | exact .inl rfl | exact .inr rfl | assumption):XS X (.Assign [.Name x pos'] e pos) (mq i f):=⟨TG.Nm hN hi hx he.h hs hf⟩
end
section
variable [aX]
theorem CG {X:Cx} {elt tg iter:Tf} {ifs:List Tf} {scope:Td} {N:List Str} {ix:List (Option Nat)} {G:aq->R (List D)} {g:GF} {C:aq->R Bool} {Fe:FX} {i:Nat} {y:Str} {lpos py spos:Pos} (hN:X.N.Nodup) (hi':X.N[i]?=some y) (hx:Loc X.env.scope y) (hc:X.calm=true) (ok:jc X scope N ix) (tk:rG ix g) (hi:XI X tg iter G) (hb:D5 X scope N tg elt ifs g C Fe) (hsw:swapsWith (.ListComp elt [⟨tg,iter,ifs,0⟩] scope lpos) (some (.Name y py)) spos.line X.env=pure true:=by rfl) (hs:∀ x,Ts iter X.env x=pure x:=by intro _; rfl) (hf:X.fn y=true\/X.env.scope.names.lookup y=some .local:=by first | exact .inl rfl | exact .inr rfl | assumption):XS X (.Assign [.Name y py] (.ListComp elt [⟨tg,iter,ifs,0⟩] scope lpos) spos) (mq i (kP ix G g C Fe)):=⟨TG.Ky hN hi' hx hc ok tk hi.h hb.h hsw hs hf⟩
end
section
variable [aX]
theorem Dw {X:Cx} {elt tg iter:Tf} {ifs:List Tf} {scope:Td} {pos:Pos} {N:List Str} {ix:List (Option Nat)} {G:aq->R (List D)} {g:GF} {C:aq->R Bool} {Fe:FX} (hc:X.calm=true) (ok:jc X scope N ix) (tk:rG ix g) (hi:XI X tg iter G) (hb:D5 X scope N tg elt ifs g C Fe) (hs:∀ x,Ts iter X.env x=pure x:=by intro _; rfl):XN X (.ListComp elt [⟨tg,iter,ifs,0⟩] scope pos) (kP ix G g C Fe):=⟨TG.OA hc ok tk hi.h hb.h hs⟩
end
section
variable [aX]
theorem lE {X : Cx} {i : Nat} {x m : Str} {id : String} {r : V -> List V -> Hp -> VK -> Prop} {u : List D -> List D -> Option (List D)} {e : Tf} {es : List Tf} {f : aq -> R (List D)} {npos apos cpos pos : Pos} (slot : Slot "list" m id) (hty : typeOf (.builtin id) = pure (.type "method_descriptor")) (hm : Lf X id r) (ok : Es X.K r u) (hx : XV X (.Name x npos) i) (he : XA X (e :: es) f) (hbase : TB (.Name x npos) m X.env (eval (.Name x npos) X.env) = eval (.Name x npos) X.env := by rfl) (hfew : ((backTo cpos (Tg (e :: es) X.env)).all (fun x => !x.1) && (backToKw cpos (TF [] X.env)).all (fun x => x.1.isSome)
      && decide ((e::es:List Tf).length+([]:List Uc).length+(if ([]:List Uc).isEmpty then 0 else 1) < 30))=true:=by rfl) (hline:(apos.endLine==cpos.line)=true:=by rfl) (hs:Tg (e::es) X.env=(false,eval e X.env)::Tg es X.env:=by rfl) (hplain:(backTo cpos (Tg es X.env)).any (·.1)=false:=by rfl) (hsw:swapsWith (.Call (.Attribute (.Name x npos) m apos) (e::es) [] cpos) none pos.line X.env=pure false:=by rfl):XS X (.Expr (.Call (.Attribute (.Name x npos) m apos) (e::es) [] cpos) pos) (AJ i u f):=⟨TG.Ot slot hty hm ok hx.h he.h hbase hfew hline hs hplain hsw⟩
end
section
variable [aX]
theorem e6 {X:Cx} {st:List Th} {F:cw} (i:Nat) (h:Am X st F):Am X st (iO i F):=⟨TG.LQ i h.h⟩
end
section
variable [aX]
theorem sN {X:Cx} {e:Tf} {f:aq->R Bool} (is:List Nat) (h:XT X e f):XT X e (md is f):=⟨TG.Mg is h.h⟩
end
section
variable [aX]
theorem aw {X:Cx} {k k':Nat} {ps:List Str} {g:List D->R D} {h:aq->R (List D)} {x:Str} {p pos:Pos} {e:Tf} {es:List Tf} (C:Callee X.prog X.w X.K X.mg X.base k x ps g) (hn:Ar ps.length g) (hr:fN k' X.A) (hk:k<=k') (ha:XA X (e::es) h) (hg:Gl X x:=by rfl) (hdb:(x==("__debug__":Str))=false:=by decide) (hns:(e::es).all noStar=true:=by rfl):XE X (.Call (.Name x p) (e::es) [] pos) (fR g h):=⟨TG.J1 C hn hr hk ha.h hg hdb hns⟩
end
section
variable [aX] {X:Cx} {a b c:Tf} {fa fb fc:FX} {pos:Pos}
theorem wY (ha:XE X a fa):XE X (.UnaryOp .USub a pos) (C6 fa):=⟨TG.NP ha.h⟩
end
section
variable [aX] {X:Cx} {a b c:Tf} {fa fb fc:FX} {pos:Pos}
theorem Fq {x:Str} {i:Int} (hg:Gl X x) (hm:∃ t,X.mg x=some (.int i t)) (hd:(x==("__debug__":Str))=false:=by decide):XE X (.Name x pos) (fC (.int i)):=⟨TG.LX hg hm hd⟩
end
section
variable [aX] {X:Cx}
theorem Hc {a b:Tf} {es:List Tf} {k:Nat} {tpos:Pos} {f:aq->R (List D)} {p pos:Pos} (hg:Gl X "zip") (hm:X.mg "zip"=none) (ha:XA X [a,b] f) (hs:Tg [a,b] X.env=(false,eval a X.env)::Tg [b] X.env:=by rfl) (hpl:(backTo pos (Tg [b] X.env)).any (·.1)=false:=by rfl):XI X (.Tuple es k tpos) (.Call (.Name "zip" p) [a,b] [] pos) (Ga f):=⟨TG.Oe hg hm ha.h hs hpl⟩
end
section
variable [aX] {X:Cx}
theorem uZ {a:Tf} {es:List Tf} {k:Nat} {tpos:Pos} {f:aq->R (List D)} {p pos:Pos} (hg:Gl X "enumerate") (hm:X.mg "enumerate"=none) (ha:XA X [a] f) (hs:Tg [a] X.env=(false,eval a X.env)::Tg [] X.env:=by rfl) (hpl:(backTo pos (Tg [] X.env)).any (·.1)=false:=by rfl):XI X (.Tuple es k tpos) (.Call (.Name "enumerate" p) [a] [] pos) (lT f):=⟨TG.G6 hg hm ha.h hs hpl⟩
end
section
variable [aX] {X:Cx} {a o e:Tf} {es:List Tf} {fa fo:FX} {fas:aq->R (List D)} {f m x:Str} {cs:List Str} {pos apos p:Pos} {k k':Nat} {ps:List Str}
theorem sf (ok:sQ X.K f cs) (h:XE X a fa) (hb:TB a f X.env (eval a X.env)=eval a X.env:=by rfl):XE X (.Attribute a f pos) (f1 (sO f cs) fa):=⟨TG.M8 ok h.h hb⟩
end
section
variable [aX] {X:Cx} {a o e:Tf} {es:List Tf} {fa fo:FX} {fas:aq->R (List D)} {f m x:Str} {cs:List Str} {pos apos p:Pos} {k k':Nat} {ps:List Str}
theorem dP {tbl : List (Str × (List D -> R D))} {pl : Sem Bool} (tb : dY X.prog X.w X.K X.mg X.base k m ps tbl) (hr : fN k' X.A) (hk : k <= k') (ho : XE X o fo) (ha : XA X (e :: es) fas) (hns : (e :: es).all noStar = true := by rfl) (ht : eval (.Call (.Attribute o m apos) (e :: es) [] pos) X.env = (do
      let ov <- eval o X.env
      standAt apos.atName
      let (f,first) <- holding [ov] (getMethod ov m pl)
      TC pos f first (backTo pos (Tg (e::es) X.env)) (backToKw pos (TF [] X.env))):=by rfl):XE X (.Call (.Attribute o m apos) (e::es) [] pos) (cq m tbl fo fas):=⟨TG.Mm tb hr hk ho.h ha.h hns ht⟩
end
section
variable [aX] {X:Cx} {a o e:Tf} {es:List Tf} {fa fo:FX} {fas:aq->R (List D)} {f m x:Str} {cs:List Str} {pos apos p:Pos} {k k':Nat} {ps:List Str}
theorem BD {tbl : List (Str × (List D -> R D))} {pl : Sem Bool} (tb : dY X.prog X.w X.K X.mg X.base k m ps tbl) (hr : fN k' X.A) (hk : k <= k') (ho : XE X o fo) (ht : eval (.Call (.Attribute o m apos) [] [] pos) X.env = (do
      let ov <- eval o X.env
      standAt apos.atName
      let (f,first) <- holding [ov] (getMethod ov m pl)
      TC pos f first (backTo pos (Tg [] X.env)) (backToKw pos (TF [] X.env))):=by rfl):XE X (.Call (.Attribute o m apos) [] [] pos) (cq m tbl fo au):=⟨TG.K6 tb hr hk ho.h ht⟩
end
section
variable [aX] {X:Cx} {a o e:Tf} {es:List Tf} {fa fo:FX} {fas:aq->R (List D)} {f m x:Str} {cs:List Str} {pos apos p:Pos} {k k':Nat} {ps:List Str}
theorem G4 {c:Str} {fs:List Str} (IA:sF X.prog X.w X.K X.mg X.base k c ps fs) (hr:fN k' X.A) (hk:k+1<=k') (hg:Gl X c) (ha:XA X (e::es) fas) (hdb:(c==("__debug__":Str))=false:=by decide) (hns:(e::es).all noStar=true:=by rfl):XE X (.Call (.Name c p) (e::es) [] pos) (fNew c fs fas):=⟨TG.Nz IA hr hk hg ha.h hdb hns⟩
end
section
variable [aX]
theorem yJ {X:Cx} {i:Nat} {x:Str} {idx value:Tf} {fk fv:FX} {npos tpos pos:Pos} (hu:X.A.units+64 < TJ) (hx:XV X (.Name x npos) i) (hi:XE X idx fk) (hv:XE X value fv) (hs:swapsWith value (some (.Subscript (.Name x npos) idx tpos)) pos.line X.env=pure false:=by rfl):XS X (.Assign [.Subscript (.Name x npos) idx tpos] value pos) (tq i fk fv):=⟨TG.LO hu hx.h hi.h hv.h hs⟩
end
section
variable [aX] {X:Cx} {pins:List (S3×Obj)} {s:Tc} {σ:L2.St} {H:Hp} {O:List S3}
theorem CZ {f:FX} {j:Nat} {k:Nat} {c P cc:S3} {e:Tf} {p lpos kp pos np mp p2 spos:Pos} {row many:Str} {params:TU} {scope:Td} (hr:fN k X.A) (hg:Gl X "sorted") (hm:X.mg "sorted"=none) (B:Cw X.mg X.base c P) (hcode:X.env.code=.ref c) (hT:∀ H,aX.tab H->H P=some (.ext (pK P lpos (X.env.qual ++ "<lambda>")))) (he:XE X e f) (hN:X.N[j]?=some many) (hkm:X.env.kindOf many=some .cell) (hv:HY X.env.scope many) (hcc:X.env.cells.lookup many=some cc) (hcl:closureFor scope X.env=pure [(many,cc)]) (hdef:defaultsOf params X.env=([],[])) (hbind:∀ cdv ctv v,bindArgs (Sa "<lambda>" (X.env.qual ++ "<lambda>") params (cutE row many np mp p2 spos) scope [(many,cc)] ((X.mg "__name__").getD .none) cdv ctv) ⟨[v],[]⟩=pure [(row,v)]) (hco:scope.isCoroutine=false) (hgen:scope.isGenerator=false) (hk:scope.kind=.function) (hno:∀ x∈scope.names,x.2≠.cell) (hlr:scope.names.lookup row=some .local) (hlm:scope.names.lookup many=some .free) (d1:(row==("__debug__":Str))=false) (d2:(many==("__debug__":Str))=false) (d3:(many==("__classdict__":Str))=false) (hns:noStar e=true:=by rfl):XE X (.Call (.Name "sorted" p) [e] [⟨some "key",.Lambda params (cutE row many np mp p2 spos) scope lpos,kp⟩] pos) (f2 p6 f (ah j)):=⟨TG.J7 hr hg hm B hcode hT he.h hN hkm hv hcc hcl hdef hbind hco hgen hk hno hlr hlm d1 d2 d3 hns⟩
end
section
variable [aX]
theorem yY {X:Cx} {i:Nat} {x:Str} {idx value:Tf} {fk fv:FX} {npos tpos pos:Pos} (hu:X.A.units+64 < TJ) (hx:XV X (.Name x npos) i) (hi:XE X idx fk) (hv:XE X value fv) (hs:swapsWith value (some (.Subscript (.Name x npos) idx tpos)) pos.line X.env=pure false:=by rfl):XS X (.Assign [.Subscript (.Name x npos) idx tpos] value pos) (pF i fk fv):=⟨TG.Mj hu hx.h hi.h hv.h hs⟩
end
section
variable [aX] {X:Cx} {pos:Pos}
theorem EA {i:Nat} {x:Str} {dp pos':Pos} (hN:X.N.Nodup) (hi:X.N[i]?=some x) (hx:Loc X.env.scope x) (hs:swapsWith (.Dict [] [] dp) (some (.Name x pos')) pos.line X.env=pure false:=by rfl) (hf:X.fn x=true\/X.env.scope.names.lookup x=some .local:=by first | exact .inl rfl | exact .inr rfl | assumption):XS X (.Assign [.Name x pos'] (.Dict [] [] dp) pos) (ym i):=⟨TG.LJ hN hi hx hs hf⟩
end
section
variable [aX] {X:Cx}
theorem Gj {i:Nat} {x:Str} {ke ve:Tf} {fk fv:FX} {npos ap1 cp1 lp ap2 cp2 pos:Pos} (hu:X.A.units+64 < TJ) (hx:XV X (.Name x npos) i) (hke:XE X ke fk) (hve:XE X ve fv) (hn1:noStar ke=true:=by rfl) (hn2:noStar ve=true:=by rfl) (hb1:TB (.Name x npos) "setdefault" X.env (eval (.Name x npos) X.env)=eval (.Name x npos) X.env:=by rfl) (hf1:((backTo cp1 (Tg [ke,.List [] lp] X.env)).all (fun x=>!x.1) && (backToKw cp1 (TF [] X.env)).all (fun x=>x.1.isSome) && decide (([ke,.List [] lp]:List Tf).length+([]:List Uc).length+(if ([]:List Uc).isEmpty then 0 else 1) < 30))=true:=by rfl) (hl1:(ap1.endLine==cp1.line)=true:=by rfl) (hp1:(backTo cp1 (Tg [.List [] lp] X.env)).any (·.1)=false:=by rfl) (hb2:TB (.Call (.Attribute (.Name x npos) "setdefault" ap1) [ke,.List [] lp] [] cp1) "append" X.env (eval (.Call (.Attribute (.Name x npos) "setdefault" ap1) [ke,.List [] lp] [] cp1) X.env)=eval (.Call (.Attribute (.Name x npos) "setdefault" ap1) [ke,.List [] lp] [] cp1) X.env:=by rfl) (hf2:((backTo cp2 (Tg [ve] X.env)).all (fun x=>!x.1) && (backToKw cp2 (TF [] X.env)).all (fun x=>x.1.isSome) && decide (([ve]:List Tf).length+([]:List Uc).length+(if ([]:List Uc).isEmpty then 0 else 1) < 30))=true:=by rfl) (hl2:(ap2.endLine==cp2.line)=true:=by rfl) (hp2:(backTo cp2 (Tg [] X.env)).any (·.1)=false:=by rfl) (hsw:swapsWith (.Call (.Attribute (.Call (.Attribute (.Name x npos) "setdefault" ap1) [ke,.List [] lp] [] cp1) "append" ap2) [ve] [] cp2) none pos.line X.env=pure false:=by rfl):XS X (.Expr (.Call (.Attribute (.Call (.Attribute (.Name x npos) "setdefault" ap1) [ke,.List [] lp] [] cp1) "append" ap2) [ve] [] cp2) pos) (CL i fk fv):=⟨TG.Mq hu hx.h hke.h hve.h hn1 hn2 hb1 hf1 hl1 hp1 hb2 hf2 hl2 hp2 hsw⟩
end
section
variable [aX] {X:Cx}
theorem pW {o:Tf} {es:List Tf} {k:Nat} {tpos:Pos} {f:FX} {apos cpos:Pos} (ho:XE X o f) (hbase:TB o "items" X.env (eval o X.env)=eval o X.env:=by rfl) (hline:(apos.endLine==cpos.line)=true:=by rfl):XI X (.Tuple es k tpos) (.Call (.Attribute o "items" apos) [] [] cpos) (lW f):=⟨TG.KQ ho.h hbase hline⟩
end
section
variable [aX]
theorem CJ {X:Cx} {st:List Th} {F:cw} (i:Nat) (h:Am X st F):Am X st (vD i F):=⟨TG.Lv i h.h⟩
end
section
variable [aX] {X:Cx}
theorem He {o e:Tf} {fo fk:FX} {pos:Pos} (hu:X.A.units+64 < TJ) (ho:XE X o fo) (hi:XE X e fk) (hs:G5 e):XE X (.Subscript o e pos) (f2 Ae fo fk):=⟨TG.NK hu ho.h hi.h hs⟩
end
section
variable [aX]
theorem Gq {X:Cx} {i:Nat} {x:Str} {e:Tf} {f:FX} {npos apos cpos pos:Pos} (hx:XV X (.Name x npos) i) (he:XN X e f) (hns:noStar e=true:=by rfl) (hbase:TB (.Name x npos) "extend" X.env (eval (.Name x npos) X.env)=eval (.Name x npos) X.env:=by rfl) (hfew:((backTo cpos (Tg [e] X.env)).all (fun x=>!x.1) && (backToKw cpos (TF [] X.env)).all (fun x=>x.1.isSome) && decide (([e]:List Tf).length+([]:List Uc).length+(if ([]:List Uc).isEmpty then 0 else 1) < 30))=true:=by rfl) (hline:(apos.endLine==cpos.line)=true:=by rfl) (hplain:(backTo cpos (Tg [] X.env)).any (·.1)=false:=by rfl) (hsw:swapsWith (.Call (.Attribute (.Name x npos) "extend" apos) [e] [] cpos) none pos.line X.env=pure false:=by rfl):XS X (.Expr (.Call (.Attribute (.Name x npos) "extend" apos) [e] [] cpos) pos) (EE i f):=⟨TG.NQ hx.h he.h hns hbase hfew hline hplain hsw⟩
end
abbrev Lk (K:RL) (f:S3) (nm qual:Str) (st:Th) (oc:SY) (od:Option S3) (kV dc pm:SY) (an:Option S3) (cd ct:SY) (sl:Array (Option SY)):Prop:=K.lookup f=some ⟨oc,od,.func (R3 nm qual (nK st) (fF st) (ax st) .none kV dc pm an cd ct),sl⟩
structure cF (P:S0) (w:SZ) (K:RL) (mg:Str->Option SY) (base:S5) (k:Nat) (N:List Str) (qual:Str) (st:Th) (f:S3) (B:cw):Prop where
 h:∀ (cdv:SY) (A:Tb) (outer:List Env) (s:Tc) (H:Hp) (E:XK),fN k (A.deeper (SA qual (ax st) s.heap.objs.size f cdv))->Tr (model P w) (A.deeper (SA qual (ax st) s.heap.objs.size f cdv)) (SA qual (ax st) s.heap.objs.size f cdv) (j5 (oC P w) P w K mg base N qual (ax st) f cdv A outer s H E).xe ->
  Am (j5 (oC P w) P w K mg base N qual (ax st) f cdv A outer s H E) (fF st) B
structure Fa (P:S0) (w:SZ) (K:RL) (mg:Str->Option SY) (base:S5) (k:Nat) (N:List Str) (qual:Str) (st:Th) (f:S3) (B:cw):Prop where
 h:∀ (cdv:SY) (A:Tb) (outer:List Env) (s:Tc) (H:Hp) (E:XK),vP K f cdv->fN k (A.deeper (SA qual (ax st) s.heap.objs.size f cdv))->Tr (model P w) (A.deeper (SA qual (ax st) s.heap.objs.size f cdv)) (SA qual (ax st) s.heap.objs.size f cdv) (j5 (oC P w) P w K mg base N qual (ax st) f cdv A outer s H E).xe ->
  Am (j5 (oC P w) P w K mg base N qual (ax st) f cdv A outer s H E) (fF st) B
theorem Fa.ok {P:S0} {w:SZ} {K:RL} {mg:Str->Option SY} {base:S5} {k:Nat} {N:List Str} {qual:Str} {st:Th} {f:S3} {B:cw} (h:Fa P w K mg base k N qual st f B):xD P w K mg base k N qual st f B:=⟨fun cdv A outer s H E hc hr hp=>(h.h cdv A outer s H E hc hr hp).h⟩
theorem cF.ok {P:S0} {w:SZ} {K:RL} {mg:Str->Option SY} {base:S5} {k:Nat} {N:List Str} {qual:Str} {st:Th} {f:S3} {B:cw} (h:cF P w K mg base k N qual st f B):BodyOk P w K mg base k N qual st f B:=⟨fun cdv A outer s H E hr hp=>(h.h cdv A outer s H E hr hp).h⟩
end TX
namespace TG
open L2
instance (priority:=low) noTabs:aX:=⟨fun _=>True,fun _ _=>trivial,fun _ _ _=>trivial⟩
end TG
namespace TG
open PySem PySem.Spec L2
theorem nr {α:Sort _} {a b:α} (h:a=b):a=b:=h
theorem dE {α β:Type} (a:α) (f:α->R β):Except.bind (Except.ok a:R α) f=f a:=nr rfl
theorem wv {α β:Type} (x:Option Ex) (f:α->R β):Except.bind (Except.error x:R α) f=.error x:=nr rfl
theorem qX {α:Type} (a:α) (k:Ks) (ρ:aq) (f:α->R D):uA (.ok a) k ρ f=f a:=nr rfl
theorem vU {α:Type} (x:Ex) (k:Ks) (ρ:aq) (f:α->R D):uA (.error (some x)) k ρ f=k.ex x ρ:=nr rfl
theorem iZ {α:Type} (a:α):Ci (.ok a:R α)=.ok a:=nr rfl
theorem eU {α:Type} (a:α):rO (some a)=.ok a:=nr rfl
theorem ge_0 (d:D) (ρ:aq):tG (some (.val d)::ρ) 0=.ok d:=nr rfl
theorem Cv (x:Option S) (ρ:aq) (i:Nat):tG (x::ρ) (i+1)=tG ρ i:=by
 unfold tG; rw [QC]
theorem qT (i:Nat) (ρ:aq):ah i ρ=tG ρ i:=nr rfl
theorem BO (d:D) (ρ:aq):fC d ρ=.ok d:=nr rfl
theorem qR (ρ:aq):au ρ=.ok []:=nr rfl
theorem oa (f:FX) (g:aq->R (List D)) (ρ:aq):af f g ρ=(f ρ).bind fun x=>(g ρ).bind fun xs=>.ok (x::xs):=nr rfl
theorem qb (g:aq->R (List D)) (ρ:aq):cy g ρ=(g ρ).bind fun xs=>rO (vj xs):=nr rfl
theorem qi (g:aq->R (List D)) (ρ:aq):kU g ρ=(g ρ).bind fun xs=>rO (pI xs):=nr rfl
theorem B7 (g:D->Option D) (f:FX) (ρ:aq):f1 g f ρ=(f ρ).bind fun a=>rO (g a):=nr rfl
theorem B6 (g:D->D->Option D) (f h:FX) (ρ:aq):f2 g f h ρ=(f ρ).bind fun a=>(h ρ).bind fun b=>rO (g a b):=nr rfl
theorem BF (f:FX) (ρ:aq):fB f ρ=(f ρ).bind fun d=>rO (NE d):=nr rfl
theorem C7 (g:List D->Option D) (f:aq->R (List D)) (ρ:aq):fL g f ρ=(f ρ).bind fun ds=>rO (g ds):=nr rfl
theorem C3 (g:List D->R D) (f:aq->R (List D)) (ρ:aq):fR g f ρ=(f ρ).bind g:=nr rfl
theorem qB (f:aq->R Bool) (ρ:aq):jJ f ρ=(f ρ).bind fun b=>.ok (!b):=nr rfl
theorem qc (f g:aq->R Bool) (ρ:aq):Og f g ρ=(f ρ).bind fun b=>if b then g ρ else .ok false:=nr rfl
theorem vH (f g:aq->R Bool) (ρ:aq):xN f g ρ=(f ρ).bind fun b=>if b then .ok true else g ρ:=nr rfl
theorem kC (f:FX) (ρ:aq):cO f ρ=(f ρ).bind fun d=>rO (truth d):=nr rfl
theorem om (f g:FX) (ρ:aq):o3 f g ρ=(f ρ).bind fun d=>zW d (g ρ):=nr rfl
theorem qC (f g:FX) (ρ:aq):Nw f g ρ=(f ρ).bind fun d=>Lc d (g ρ):=nr rfl
theorem nG (f:FX) (ρ:aq):x5 f ρ=(f ρ).bind fun a=>rO (Ff a):=nr rfl
theorem vS (t:aq->R Bool) (f g:FX) (ρ:aq):OU t f g ρ=(t ρ).bind fun c=>if c then f ρ else g ρ:=nr rfl
theorem qJ (T:String) (f:FX) (ρ:aq):ow T f ρ=(f ρ).bind fun a=>rO (qt T a):=nr rfl
theorem pV (f:FX) (ρ:aq):MB f ρ=(f ρ).bind fun a=>.ok (.bl (isNon a)):=nr rfl
theorem nw (f:FX) (ρ:aq):KJ f ρ=(f ρ).bind fun a=>.ok (.bl (!isNon a)):=nr rfl
theorem qa (f:FX) (ρ:aq):C6 f ρ=(f ρ).bind fun a=>rO (JS a):=nr rfl
theorem kJ (f:FX) (ρ:aq):IV f ρ=(f ρ).bind fun a=>rO (DQ a):=nr rfl
theorem p9 (f:FX) (ρ:aq):MS f ρ=(f ρ).bind fun a=>rO (IJ a):=nr rfl
theorem kK (g g':D->D->Option D) (fa fb fc:FX) (ρ:aq):Jf g g' fa fb fc ρ=(fa ρ).bind fun x=>(fb ρ).bind fun y=>(rO (g x y)).bind fun z=>zW z ((fc ρ).bind fun w=>rO (g' y w)):=nr rfl
theorem j6 (f:FX) (ρ:aq):bZ f ρ=(f ρ).bind fun d=>rO (pX d):=nr rfl
theorem jt (f:aq->R (List D)) (ρ:aq):gl f ρ=(f ρ).bind fun ds=>rO (n9 ds):=nr rfl
theorem jv (f:aq->R (List D)) (ρ:aq):sg f ρ=(f ρ).bind fun ds=>rO (rW ds):=nr rfl
theorem qP (f:aq->R (List D)) (ρ:aq):Ga f ρ=(f ρ).bind fun ds=>rO (BR ds):=nr rfl
theorem nU (f:aq->R (List D)) (ρ:aq):lT f ρ=(f ρ).bind fun ds=>rO (wq ds):=nr rfl
theorem p4 (z:Str):OL (.str z)=some z:=nr rfl
theorem jm (ρ:aq):bj ρ=.ok none:=nr rfl
theorem nY (f:FX) (ρ:aq):cE f ρ=(f ρ).bind fun d=>rO (Af d):=nr rfl
theorem kQ (f:FX) (l h:aq->R (Option Int)) (ρ:aq):bK f l h ρ=(f ρ).bind fun a=>(l ρ).bind fun lo=>(h ρ).bind fun hi=>rO (tH a lo hi):=nr rfl
theorem nF (ρ:aq):dZ ρ=.ok true:=nr rfl
theorem nM (k:Ks) (ρ:aq):cG k ρ=k.nx ρ:=nr rfl
theorem iy (A B:cw) (k:Ks) (ρ:aq):aJ A B k ρ=A { k with nx:=B k } ρ:=nr rfl
theorem n5 (f:FX) (k:Ks) (ρ:aq):bG f k ρ=uA (f ρ) k ρ .ok:=nr rfl
theorem ky (k:Ks) (ρ:aq):Lr k ρ=.ok .non:=nr rfl
theorem oX (c:aq->R Bool) (A B:cw) (k:Ks) (ρ:aq):j3 c A B k ρ=uA (c ρ) k ρ fun b=>if b then A k ρ else B k ρ:=nr rfl
theorem nJ (i:Nat) (f:FX) (k:Ks) (ρ:aq):bR i f k ρ=uA (f ρ) k ρ fun d=>k.nx (setV i d ρ):=nr rfl
theorem ku (is:List Nat) (F:cw) (k:Ks) (ρ:aq):fO is F k ρ=F k (kill is ρ):=nr rfl
theorem jj (G:aq->R (List D)) (g:GF) (B:cw) (k:Ks) (ρ:aq):kM G g B k ρ=uA (G ρ) k ρ fun ds=>gX g B k ds ρ:=nr rfl
theorem Ct (d:D) (x:Option S) (ρ:aq):setV 0 d (x::ρ)=some (.val d)::ρ:=nr rfl
theorem CM (i:Nat) (d:D) (x:Option S) (ρ:aq):setV (i+1) d (x::ρ)=x::setV i d ρ:=nr rfl
theorem qL (ρ:aq):kill [] ρ=ρ:=nr rfl
theorem nZ (i:Nat) (is:List Nat) (ρ:aq):kill (i::is) ρ=kill is (ρ.set i none):=nr rfl
theorem oS (B:cw) (n:Nat) (a:D):aG B 1 n [a]=B K0 (env0 n [a]):=nr rfl
theorem eR (B:cw) (n:Nat) (a b:D):aG B 2 n [a,b]=B K0 (env0 n [a,b]):=nr rfl
theorem qO (B:cw) (n:Nat) (a b c:D):aG B 3 n [a,b,c]=B K0 (env0 n [a,b,c]):=nr rfl
theorem zI (B:cw) (n:Nat) (a b c d:D):aG B 4 n [a,b,c,d]=B K0 (env0 n [a,b,c,d]):=nr rfl
theorem IG (B:cw) (n:Nat) (a b c d e:D):aG B 5 n [a,b,c,d,e]=B K0 (env0 n [a,b,c,d,e]):=nr rfl
theorem qg (ρ:aq):inB [] ρ=[]:=nr rfl
theorem og (ix:List (Option Nat)) (ρ:aq):inB (none::ix) ρ=none::inB ix ρ:=nr rfl
def pick (ρ:aq) (i:Nat):Option S:=match ρ[i]? with
 | some (some (.val d))=>some (.val d)
 | _=>none
theorem nB (i:Nat) (ix:List (Option Nat)) (ρ:aq):inB (some i::ix) ρ=pick ρ i::inB ix ρ:=nr rfl
theorem Cg (d:D) (ρ:aq):pick (some (.val d)::ρ) 0=some (.val d):=rfl
theorem CB (x:Option S) (ρ:aq) (i:Nat):pick (x::ρ) (i+1)=pick ρ i:=by
 unfold pick; rw [QC]
theorem nI (i:Nat) (f:FX) (k:Ks) (ρ:aq):mq i f k ρ=uA (f ρ) k ρ fun d=>k.nx (ρ.set i (some (.own d))):=nr rfl
theorem nX (i:Nat) (F:cw) (k:Ks) (ρ:aq):iO i F k ρ=F k (frz i ρ):=nr rfl
theorem Cy (d:D) (ρ:aq):frz 0 (some (.own d)::ρ)=some (.val d)::ρ:=nr rfl
theorem vd (d:D) (ρ:aq):frz 0 (some (.val d)::ρ)=some (.val d)::ρ:=nr rfl
theorem BI (i:Nat) (x:Option S) (ρ:aq):frz (i+1) (x::ρ)=x::frz i ρ:=by
 unfold frz;rw [QC];split <;> rename_i h
 ·rw [h]; rfl
 ·rfl
theorem kY (i:Nat) (u:List D->List D->Option (List D)) (f:aq->R (List D)) (k:Ks) (ρ:aq) {xs:List D} (h:ρ[i]?=some (some (.own (.lst xs)))):AJ i u f k ρ=uA (f ρ) k ρ fun ds=>(rO (u xs ds)).bind fun ys=>k.nx (ρ.set i (some (.own (.lst ys)))):=by
 unfold AJ; rw [h]
theorem lx {xs:List D} {y:D} (h:xs.length < 100000):gb xs [y]=some (xs++[y]):=by
 show (if small (xs.length+1) then some (xs++[y]) else none)=_;rw [dM ‹0›]; rfl
theorem qD (i j:Int):cj (.int i) (.int j)=some (.int (i+j)):=nr rfl
theorem qK (i j:Int):TG.B2 (.int i) (.int j)=some (.int (i - j)):=nr rfl
theorem wt (i j:Int):OB (.int i) (.int j)=some (.bl (decide (i < j))):=nr rfl
theorem pY (i j:Int):wA (.int i) (.int j)=some (.bl (decide (i < j))):=nr rfl
theorem qy (x y:Str):wA (.str x) (.str y)=some (.bl (decide (x.cps.toList < y.cps.toList))):=nr rfl
theorem qq (c d:Bool):MZ (.bl c) (.bl d)=some (.bl (c==d)):=nr rfl
theorem jo (c d:Bool):FU (.bl c) (.bl d)=some (.bl (!(c==d))):=nr rfl
theorem vv (i j:Int):OX (.int i) (.int j)=some (.bl (decide (i<=j))):=nr rfl
theorem vV (i j:Int):M0 (.int i) (.int j)=some (.bl (decide (j < i))):=nr rfl
theorem vB (i j:Int):OH (.int i) (.int j)=some (.bl (decide (j<=i))):=nr rfl
theorem qF (i:Int):JS (.int i)=some (.int (-i)):=nr rfl
theorem iP {i j:Int} (h:0 < j):dD (.int i) (.int j)=some (.int (i%j)):=by
 show (if decide (0 < j) then some (D.int (i%j)) else none)=_;rw [decide_eq_true h]; rfl
theorem oP {i j:Int} (h:0 < j) (h':j < 10 ^ 200):eP (.int i) (.int j)=some (.int (i / j)):=by
 show (if decide (0 < j/\j < 10 ^ 200) then some (D.int (i / j)) else none)=_;rw [decide_eq_true ⟨h,h'⟩]; rfl
theorem lw {i j:Int} (h:-(2 ^ 64) < i) (h':i < 2 ^ 64):jK (.int i) (.int j)=some (.int (i*j)):=by
 show (if decide ((-(2 ^ 64) < i/\i < 2 ^ 64)\/(-(2 ^ 64) < j/\j < 2 ^ 64)) then some (D.int (i*j)) else none)=_;rw [decide_eq_true (.inl ⟨h,h'⟩)]; rfl
theorem pG {i j:Int} (h:-(2 ^ 64) < j) (h':j < 2 ^ 64):jK (.int i) (.int j)=some (.int (i*j)):=by
 show (if decide ((-(2 ^ 64) < i/\i < 2 ^ 64)\/(-(2 ^ 64) < j/\j < 2 ^ 64)) then some (D.int (i*j)) else none)=_;rw [decide_eq_true (.inr ⟨h,h'⟩)]; rfl
theorem Ag (i:Int) (n:Nat) (h:n<=1000000) (h':i.natAbs < 2 ^ 64):rC (.int i) (.int n)=some (.int (i ^ n)):=by
 show (if decide (0<=(n:Int)/\(n:Int)<=1000000/\i.natAbs < 2 ^ 64) then some (D.int (i ^ (n:Int).toNat)) else none)=_;rw [decide_eq_true ⟨by omega,by omega,h'⟩]; rfl
theorem DC:rC (.int 10) (.int 59)=some (.int (10 ^ 59)):=Ag 10 59 (by decide) (by decide)
def Hz:Int:=10 ^ 59
def OW:Int:=10 ^ 60
theorem Kp:1000000 < Hz/\Hz*10=OW:=by decide +kernel
theorem Iu:rC (.int 10) (.int 59)=some (.int Hz):=DC
theorem kH (i j:Int):mj (.int i) (.int j)=some (.bl (i==j)):=by unfold mj pyEq; rfl
theorem kj (i j:Str):mj (.str i) (.str j)=some (.bl (i==j)):=by unfold mj pyEq; rfl
theorem kB (i j:Bool):mj (.bl i) (.bl j)=some (.bl (i==j)):=by unfold mj pyEq; rfl
theorem kn (i j:Int):ye (.int i) (.int j)=some (.bl (!(i==j))):=by unfold ye pyEq; rfl
theorem kz (i j:Str):ye (.str i) (.str j)=some (.bl (!(i==j))):=by unfold ye pyEq; rfl
theorem kA (i j:Bool):ye (.bl i) (.bl j)=some (.bl (!(i==j))):=by unfold ye pyEq; rfl
theorem Gy {α:Type} (xs:List α) (n:Nat):pT xs (n:Int)=xs[n]?:=by
 unfold pT JQ;rw [if_pos ‹0›];by_cases h:n < xs.length
 ·rw [if_pos ‹0›]; rfl
 ·rw [if_neg ‹0›,Q3 ‹0›]; rfl
theorem CT {α:Type} (a:α) (xs:List α):pT (a::xs) 0=some a:=Gy (a::xs) 0
theorem De {α:Type} (a:α) (xs:List α) (n:Nat):pT (a::xs) ((n+1:Nat):Int)=pT xs (n:Int):=by
 rw [Gy,Gy,QC]
theorem JK (xs:List D) (i:Int):aW (.tup xs) (.int i)=pT xs i:=nr rfl
theorem Oa (xs:List D) (i:Int):aW (.lst xs) (.int i)=pT xs i:=nr rfl
theorem v5 (a:D) (xs:List D):aW (.tup (a::xs)) (.int 0)=some a:=CT a xs
theorem vY (a b:D) (xs:List D):aW (.tup (a::b::xs)) (.int 1)=some b:=(De a _ 0).trans (CT b xs)
theorem v7 (a b c:D) (xs:List D):aW (.tup (a::b::c::xs)) (.int 2)=some c:=(De a _ 1).trans ((De b _ 0).trans (CT c xs))
theorem vL (a:D) (xs:List D):aW (.lst (a::xs)) (.int 0)=some a:=CT a xs
theorem wx (a b:D) (xs:List D):aW (.lst (a::b::xs)) (.int 1)=some b:=(De a _ 0).trans (CT b xs)
theorem v4 (a b c:D) (xs:List D):aW (.lst (a::b::c::xs)) (.int 2)=some c:=(De a _ 1).trans ((De b _ 0).trans (CT c xs))
theorem ko (xs:List D):ic [.lst xs]=some (.int xs.length):=nr rfl
theorem kG (xs:List D):ic [.tup xs]=some (.int xs.length):=nr rfl
theorem gQ (xs:List D):cQ [.lst xs]=some (.tup xs):=nr rfl
theorem hV (xs:List D):cQ [.tup xs]=some (.tup xs):=nr rfl
theorem pU (b:Bool):NE (.bl b)=some b:=nr rfl
theorem js (i:Int):Af (.int i)=some (some i):=nr rfl
theorem gR (b:Bool):truth (.bl b)=some b:=nr rfl
theorem gU (xs:List D):truth (.tup xs)=some (!xs.isEmpty):=nr rfl
theorem gS (xs:List D):truth (.lst xs)=some (!xs.isEmpty):=nr rfl
theorem lY (i j:Int):sE [.int i,.int j]=some (.int (if j > i then j else i)):=nr rfl
theorem mF (i j:Int):yV [.int i,.int j]=some (.int (if j < i then j else i)):=nr rfl
theorem EJ (b:Bool):Bu [.bl b]=some (.int (if b then 1 else 0)):=nr rfl
theorem hX (xs:List D):pX (.lst xs)=some xs:=nr rfl
theorem gY (xs:List D):pX (.tup xs)=some xs:=nr rfl
theorem kr (k:R D):zW (.bl true) k=k:=nr rfl
theorem kI (k:R D):zW (.bl false) k=.ok (.bl false):=nr rfl
theorem nS (k:R D):Lc (.bl true) k=.ok (.bl true):=nr rfl
theorem ny (k:R D):Lc (.bl false) k=k:=nr rfl
theorem kR (a b:Bool):zW (.bl a) (.ok (.bl b))=.ok (.bl (a && b)):=by cases a <;> rfl
theorem nH (a b:Bool):Lc (.bl a) (.ok (.bl b))=.ok (.bl (a || b)):=by cases a <;> rfl
theorem qQ (b:Bool):Ff (.bl b)=some (.bl (!b)):=nr rfl
theorem pZ (xs:List D):IJ (.lst xs)=some (.lst xs.reverse):=nr rfl
theorem kc (n:Nat) (h:n < 2 ^ 62):n9 [.int n]=some (e7 0 n):=by
 show (if okR (n:Int) then some (e7 0 ((n:Int).toNat)) else none)=_
 have:okR (n:Int)=true:=decide_eq_true ⟨by omega,by omega⟩
 rw [this]; rfl
theorem IK {xs:List D} (h:xs.length<=100000):pI xs=some (.lst xs):=by unfold pI; rw [dM h]; rfl
theorem Bh {α:Type} (f:α->D) (h:∀ a,pl (f a)=true):∀ xs:List α,oF (xs.map f)=true
 | []=>rfl
 | x::xs=>by
  show (pl (f x) && oF (xs.map f))=true;rw [h,Bh f h xs]; rfl
theorem FJ (f:Str->D) (hf:f=D.str) (w:Str) (ws:List Str):inD (.str w) (ws.map f)=ws.any fun y=>y==w:=by
 subst hf;unfold inD;rw [QN];congr 1
theorem GD (w:Str) (ws:List Str):Ls (.str w) (.tup (ws.map .str))=some (.bl (ws.contains w)):=by
 show (if (pl (.str w) && oF (ws.map .str)) && fK 8 (.str w) then some (D.bl (inD (.str w) (ws.map .str))) else none)=_;rw [FJ _ rfl,Bh _ fun _=>rfl];show some (D.bl _)=_;congr 2
 induction ws with
 | nil=>rfl
 | cons x xs ih=>rw [PZ,QI,ih,Bool.beq_comm]
theorem E6 (xs ys:List D) (h:xs.length+ys.length<=100000):cj (.lst xs) (.lst ys)=some (.lst (xs++ys)):=by
 show (if small (xs.length+ys.length) then some (D.lst (xs++ys)) else none)=_;rw [dM h]; rfl
theorem fS (xs ys:List D) (h:xs.length+ys.length<=100000):cj (.tup xs) (.tup ys)=some (.tup (xs++ys)):=by
 show (if small (xs.length+ys.length) then some (D.tup (xs++ys)) else none)=_;rw [dM h]; rfl
theorem ou (xs:List D) (lo hi:Option Int):tH (.lst xs) lo hi=some (.lst (cutD xs lo hi)):=nr rfl
theorem n0 (xs:List D) (lo hi:Option Int):tH (.tup xs) lo hi=some (.tup (cutD xs lo hi)):=nr rfl
theorem ip {ix:List (Option Nat)} {G:aq->R (List D)} {g:GF} {C:aq->R Bool} {Fe:FX} {ρ:aq} {ds r:List D} (h1:G ρ=.ok ds) (h2:ds.length<=100000) (h3:A0 (inB ix ρ) g C Fe ds=.ok r):kP ix G g C Fe ρ=.ok (.lst r):=by
 unfold kP;rw [h1,dE,dM h2,h3]; rfl
theorem sV {α:Type} {ρ:aq} {g:GF} {C:aq->R Bool} {Fe:FX} (mk:α->D) (p:α->Bool) (v:α->D):∀ xs:List α,(∀ a∈xs,∃ ρ1,g (mk a) ρ=some ρ1/\C ρ1=.ok (p a)/\Fe ρ1=.ok (v a)) ->
  A0 ρ g C Fe (xs.map mk)=.ok ((xs.filter p).map v)
 | [],_=>rfl
 | a::xs,h=>by
  obtain⟨ρ1,h1,h2,h3⟩:=h a O6;rw [Pq,mQ,h1,eU,dE,h2,iZ,dE,h3,iZ,dE,sV mk p v xs fun b hb=>h b (O7 _ hb)];cases e:p a with
  | true=>rw [if_pos rfl,QV e]; rfl
  | false=>rw [if_neg Pn,QW (by simp [e])]
theorem li {α:Type} {ρ:aq} {g:GF} {C:aq->R Bool} {Fe:FX} (mk:α->D) (v:α->D) (xs:List α) (h:∀ a∈xs,∃ ρ1,g (mk a) ρ=some ρ1/\C ρ1=.ok true/\Fe ρ1=.ok (v a)):A0 ρ g C Fe (xs.map mk)=.ok (xs.map v):=by
 rw [sV mk (fun _=>true) v xs h,List.filter_eq_self.mpr fun _ _=>rfl]
theorem xW {ρ:aq} {g:GF} {C:aq->R Bool} {Fe:FX} (P:D->Prop):∀ ds:List D,(∀ d∈ds,∃ ρ1 v,g d ρ=some ρ1/\C ρ1=.ok true/\Fe ρ1=.ok v/\P v)->∃ vs:List D,vs.length=ds.length/\(∀ v∈vs,P v)/\A0 ρ g C Fe ds=.ok vs
 | [],_=>⟨[],rfl,(fun _ h=>nomatch h),rfl⟩
 | d::ds,h=>by
  obtain⟨ρ1,w,h1,h2,h3,h4⟩:=h d O6;obtain⟨ws,e1,e2,e3⟩:=xW P ds fun d' hd=>h d' (O7 _ hd);refine⟨w::ws,by rw [Pp,Pp,e1],fun w' hw=>?_,?_⟩
  ·rcases List.mem_cons.mp hw with z | z
   ·rw [z]; exact h4
   ·exact e2 w' z
  ·rw [mQ,h1,eU,dE,h2,iZ,dE,h3,iZ,dE,e3]; rfl
theorem AQ {g:GF} {B:cw} {k:Ks} (Iv:Nat->aq->Prop):∀ (ds:List D) (i:Nat) (ρ:aq),(∀ j d ρ (k':Ks),i<=j->ds[j - i]?=some d->Iv j ρ->∃ ρ1 ρ2,g d ρ=some ρ1/\Iv (j+1) ρ2/\B k' ρ1=k'.nx ρ2)->Iv i ρ->∃ ρ',Iv (i+ds.length) ρ'/\gX g B k ds ρ=k.nx ρ'
 | [],i,ρ,_,h=>⟨ρ,h,rfl⟩
 | d::ds,i,ρ,st,h=>by
  obtain⟨ρ1,ρ2,e1,h2,e2⟩:=st i d ρ ⟨gX g B k ds,k.nx,gX g B k ds,k.ex⟩ (Ph _) (by rw [QL]; rfl) h;obtain⟨ρ',h3,e3⟩:=AQ (g:=g) (B:=B) (k:=k) Iv ds (i+1) ρ2 (fun j d' ρ k' hj hd=>st j d' ρ k' ‹0› (by rw [show j - i=(j - (i+1))+1 by omega,QC]; exact hd)) h2;refine⟨ρ',?_,?_⟩
  ·rw [Pp]
   have:i+(ds.length+1)=i+1+ds.length:=(by omega);rw [this]; exact h3
  ·show ((rO (g d ρ)).bind fun ρ1=>B ⟨gX g B k ds,k.nx,gX g B k ds,k.ex⟩ ρ1)=_;rw [e1,eU,dE,e2];exact e3
theorem fA {g:GF} {B:cw} {k:Ks} {ds:List D} {ρ:aq} {Q:R D->Prop} (Iv:Nat->aq->Prop) (st:∀ i d ρ (k':Ks),ds[i]?=some d->Iv i ρ->∃ ρ1 ρ2,g d ρ=some ρ1/\Iv (i+1) ρ2/\B k' ρ1=k'.nx ρ2) (h:Iv 0 ρ) (q:∀ ρ',Iv ds.length ρ'->Q (k.nx ρ')):Q (gX g B k ds ρ):=by
 obtain⟨ρ',h1,e⟩:=AQ (k:=k) Iv ds 0 ρ (fun j d ρ k' _ hd=>st j d ρ k' hd) h;rw [e]; rw [QG] at h1; exact q ρ' h1
theorem cM {α:Type} {xs:List α} {i:Nat} {a:α} (h:xs[i]?=some a):i < xs.length:=by
 rcases Q2 i xs.length with z | z
 ·exact z
 ·rw [Q3 z] at h; cases h
theorem A4 {α β:Type} (f:α->β) (xs:List α) (i:Int):pT (xs.map f) i=(pT xs i).map f:=by
 unfold pT;rw [Pr];cases JQ xs.length i with
 | none=>rfl
 | some j=>simp
theorem tT {α:Type} {xs:List α} {k:Nat} (h:k < xs.length):pT xs (k:Int)=some xs[k]:=by
 unfold pT JQ;rw [if_pos ‹0›,if_pos ‹0›];simp [h]
theorem rN {α:Type} {xs:List α} {i:Int} (h0:0<=i) (h:i < xs.length):pT xs i=some (xs[i.toNat]'‹0›):=by
 have e:i=((i.toNat:Nat):Int):=by omega
 conv=>lhs; rw [e]
 exact tT ‹0›
def HD:cw:=aJ (j3 (fB (f2 wA (ah 1) (fL ic (af (ah 0) (au))))) (bG (f2 aW (ah 0) (ah 1))) (cG)) (bG (fC (.int 0)))
theorem Gs (ns:List Int) (k:Nat):aG HD 2 2 [.lst (ns.map .int),.int k]=.ok (.int (ns.getD k 0)):=by
 show (if decide ((k:Int) < ((ns.map D.int).length:Int)) then uA (rO (pT (ns.map D.int) (k:Int))) _ _ .ok else .ok (.int 0))=_;rw [Pr];by_cases h:k < ns.length
 ·rw [if_pos (by simpa using h),A4,tT h,Option.map_some,QZ,Qj h]; rfl
 ·rw [if_neg (by simpa using h),QZ,Q3 ‹0›]; rfl
theorem Dy (ns:List Int) (i:Int) (h:0<=i):∃ c:Int,aG HD 2 2 [.lst (ns.map .int),.int i]=.ok (.int c):=by
 have e:i=((i.toNat:Nat):Int):=by omega
 exact⟨ns.getD i.toNat 0,by rw [e]; exact Gs ns i.toNat⟩
theorem Bs (x y:Str):(x++y).length=x.length+y.length:=by
 show (x.cps++y.cps).size=_;rw [Array.size_append]; rfl
theorem m9 (x y:Str) (h:x.length<=1000) (h':y.length<=1000):cj (.str x) (.str y)=some (.str (x++y)):=by
 show (if small (x.length+y.length) then some (D.str (x++y)) else none)=_;rw [dM ‹0›]; rfl
theorem AY (x:Str) (h:x.length<=1000) (i:Int) (h0:0<=i) (h1:i < x.length):∃ y:Str,y.length=1/\aW (.str x) (.int i)=some (.str y):=by
 have hl:x.cps.toList.length=x.length:=by simp [Str.length]
 have hi:i < x.cps.toList.length:=by omega
 refine⟨⟨#[x.cps.toList[i.toNat]'‹0›]⟩,rfl,?_⟩;show (if small x.length then (pT x.cps.toList i).bind fun c=>some (D.str ⟨#[c]⟩) else none)=_;rw [dM ‹0›,if_pos rfl,rN h0 hi]; rfl
theorem kT (lo:Int) (n:Nat):e7 lo n=(List.range n).map fun (k:Nat)=>D.int (lo+(k:Int)):=nr rfl
theorem cX (lo:Int) (n:Nat):(e7 lo n).length=n:=by unfold e7; rw [Pr,Qr]
theorem mZ {α:Type} (xs:List α) (m:Nat):cutD xs none (some (m:Int))=xs.take m:=by
 unfold cutD;rw [HT.J4,HT.Ma,Qf,Qt];rcases Q6 m xs.length with h | h
 ·rw [Q7 h]
 ·rw [Q8 h,Q4 h,Q4 (Ph _)]
theorem ui {α:Type} (xs:List α) (m:Nat):cutD xs (some (m:Int)) none=xs.drop m:=by
 unfold cutD;rw [HT.J4,HT.Ma];rcases Q6 m xs.length with h | h
 ·rw [Q7 h];exact Q4 (by rw [PN]; exact Ph _)
 ·rw [Q8 h,QL,Qc,Rb h]
theorem wG (ρ:aq):vN ρ=.ok (.dct [] []):=nr rfl
theorem o5 (q:List Key):jH (.tup (q.map bz))=some q:=cR q
theorem A3 {i:Nat} {fk fv:FX} {k:Ks} {ρ:aq} {al:List (List Key×D)} {q:List Key} {v:D} (h:ρ[i]?=some (some (.own (dh al)))) (ek:fk ρ=.ok (.tup (q.map bz))) (ev:fv ρ=.ok v) (hl:al.length<=100000):tq i fk fv k ρ=k.nx (ρ.set i (some (.own (dh (ib al q v))))):=by
 have e:vQ (encK al) (al.map (·.2)) (.tup (q.map bz)) v=some (ib al q v):=by
  unfold vQ;rw [kX];show (jH (.tup (q.map bz))).bind _=_;rw [o5];show (if small al.length then _ else _)=_;rw [dM hl]; rfl
 unfold tq;rw [h];show uA ((fv ρ).bind fun v=>(fk ρ).bind fun q=>rO (vQ (encK al) (al.map (·.2)) q v)) k ρ _=_;rw [ev,dE,ek,dE,e]; rfl
theorem EZ {α:Type} (xs:List α) (a:α):cutD (xs++[a]) none (some (-1))=xs:=by
 unfold cutD;have e:HT.sIx (xs++[a]).length (xs++[a]).length (some (-1))=xs.length:=by
  show (if (-1:Int) < 0 then ((-1:Int)+((xs++[a]).length:Int)).toNat else min (-1:Int).toNat (xs++[a]).length)=_;rw [if_pos (by decide),PK,PR]; omega
 rw [HT.J4,e,Qf,Qt,Rc]
theorem Aw:∀ {σ τ:List Bool} {a b:List D},Sh σ a->Sh τ b->Sh (σ++τ) (a++b)
 | _,_,_,_,.nil,h=>h
 | _,_,_,_,.int i h,h'=>.int i (Aw h h')
 | _,_,_,_,.str i h,h'=>.str i (Aw h h')
end TG
namespace TG
open PySem PySem.Spec L2
local macro_rules
 | `(tactic| simp! only [$xs,*])=>`(tactic| simp only [dE,wv,qX,vU,iZ,eU,ge_0,Cv,qT,BO,qR,oa,qb,qi,B7,B6,BF,C7,C3,qB,qc,vH,kC,om,qC,nG,vS,qJ,pV,nw,qa,kJ,p9,kK,j6,jt,jv,qP,nU,jm,nY,kQ,nF,nM,iy,n5,ky,oX,nJ,ku,jj,nI,nX,Cy,vd,BI,Ct,CM,qL,nZ,qg,og,nB,Cg,CB,Rf,Rg,Pq,PX,Qb,Qo,K0,env0,List.replicate,QM,Pw,QG,Nat.reduceAdd,Nat.reduceSub,Pp,P0,qD,qK,wt,pY,qy,qq,jo,p4,vv,vV,vB,qF,kH,kj,kB,kn,kz,kA,v5,vY,v7,vL,wx,v4,ko,kG,gQ,hV,pU,js,gR,gU,gS,lY,mF,hX,gY,kr,kI,nS,ny,kR,nH,qQ,pZ,ou,n0,gN,if_true,if_false,Rh,Ri,P9,$xs,*])
theorem Ib (a b c:D):vj [a,b,c]=some (.tup [a,b,c]):=nr rfl
theorem yf (a b:D):vj [a,b]=some (.tup [a,b]):=nr rfl
theorem HA (a:D):vj [a]=some (.tup [a]):=nr rfl
theorem Md:vj []=some (.tup []):=nr rfl
theorem JW:pI []=some (.lst []):=nr rfl
end TG
namespace TG
open PySem PySem.Spec L2
def zY (m:Nat) (rows:List (List D)):Prop:=rows.Pairwise fun r s=>eS (r.take m) (s.take m)=some true
inductive F2 {α β:Type} (R:α->β->Prop):List α->List β->Prop where
 | nil:F2 R [] []
 | cons {a:α} {b:β} {as:List α} {bs:List β} (h:R a b) (t:F2 R as bs):F2 R (a::as) (b::bs)
theorem EC {ρ:aq} {g:GF} {C:aq->R Bool} {Fe:FX}:∀ (ds:List D) (P:Nat->D->Prop),(∀ i d,ds[i]?=some d->∃ ρ1 v,g d ρ=some ρ1/\C ρ1=.ok true/\Fe ρ1=.ok v/\P i v)->∃ vs:List D,vs.length=ds.length/\(∀ i v,vs[i]?=some v->P i v)/\A0 ρ g C Fe ds=.ok vs
 | [],_,_=>⟨[],rfl,(fun _ _ h=>nomatch h),rfl⟩
 | d::ds,P,h=>by
  obtain⟨ρ1,w,h1,h2,h3,h4⟩:=h 0 d rfl;obtain⟨ws,e1,e2,e3⟩:=EC (ρ:=ρ) (g:=g) (C:=C) (Fe:=Fe) ds (fun i v=>P (i+1) v) fun i d' hd=>h (i+1) d' (by rw [QC]; exact hd);refine⟨w::ws,by rw [Pp,Pp,e1],fun i v hv=>?_,?_⟩
  ·cases i with
   | zero=>cases hv; exact h4
   | succ i=>rw [QC] at hv; exact e2 i v hv
  ·rw [mQ,h1,eU,dE,h2,iZ,dE,h3,iZ,dE,e3]; rfl
theorem sU:∀ {σ:List Bool} {a b:List D},Sh σ a->Sh σ b->(iH a b=true↔a=b)
 | _,_,_,.nil,.nil=>by unfold iH; simp
 | _,_,_,.int i h,.int j h'=>by
  unfold iH pyEq;rw [PP,sU h h'];simp
 | _,_,_,.str i h,.str j h'=>by
  unfold iH pyEq;rw [PP,sU h h'];simp
theorem vq:∀ {σ:List Bool} {a:List D},Sh σ a->oF a=true
 | _,_,.nil=>rfl
 | _,_,.int i h=>by
  show (pl (.int i) && oF _)=true;rw [vq h]; rfl
 | _,_,.str i h=>by
  show (pl (.str i) && oF _)=true;rw [vq h]; rfl
theorem xt:∀ {σ:List Bool} {a:List D} (n:Nat),Sh σ a->a.all (fK (n+1))=true
 | _,_,_,.nil=>rfl
 | _,_,n,.int i h=>by rw [Qh,xt n h]; rfl
 | _,_,n,.str i h=>by rw [Qh,xt n h]; rfl
end TG
namespace TD
open PySem PySem.Spec L2 TG TX
def bS:cw:=aJ (j3 (fB (f2 wA (ah 1) (fL ic (af (ah 0) (au))))) (bG (f2 aW (ah 0) (ah 1))) (cG)) (bG (fC (.int 0)))
def eF:cw:=bG (fL cQ (af (kP [none] (bZ (f2 cj (f2 aW (ah 0) (fC (.int 0))) (f2 aW (ah 0) (fC (.int 1))))) (gN 0) (dZ) (f2 aW (ah 0) (fC (.int 0)))) (au)))
def fj:cw:=aJ (kM (lT (af (fR (aG eF 1 1) (af (ah 0) (au))) (au))) (gT 2 (uB [2,3])) (aJ (j3 (fB (f2 mj (ah 3) (ah 1))) (bG (ah 2)) (cG)) (fO [2,3] cG))) (vn)
def gh:cw:=bG (f2 aW (f2 aW (f2 cj (f2 aW (ah 0) (fC (.int 0))) (f2 aW (ah 0) (fC (.int 1)))) (ah 1)) (fC (.int 1)))
def aM:cw:=bG (f2 dD (f2 cj (f2 cj (f2 jK (ah 0) (ah 0)) (f2 jK (fC (.int 48271)) (ah 0))) (fC (.int 11))) (fC (.int 2147483647)))
def cT:cw:=aJ (bR 2 (f2 dD (f2 cj (f2 cj (f2 dD (fR (aG bS 2 2) (af (ah 0) (af (ah 1) (au)))) (fC (.int 2147483647))) (f2 jK (f2 jK (fC (.int 69621)) (ah 1)) (ah 1))) (fC (.int 5))) (fC (.int 2147483647)))) (bG (fR (aG aM 1 1) (af (fR (aG aM 1 1) (af (ah 2) (au))) (au))))
def bT:cw:=aJ (bR 2 (fC (.str "abcdefghijklmnopqrstuvwxyz"))) (aJ (bR 1 (f2 dD (f2 cj (f2 jK (ah 1) (f2 aW (kU (af (fC (.int 1)) (af (fC (.int 5)) (af (fC (.int 7)) (af (fC (.int 11)) (af (fC (.int 13)) (af (fC (.int 23)) (au)))))))) (f2 dD (ah 0) (fC (.int 6))))) (f2 eP (ah 0) (fC (.int 6)))) (fC (.int 24)))) (aJ (bR 0 (f2 eP (ah 0) (fC (.int 144)))) (aJ (j3 (fB (f2 mj (f2 dD (ah 0) (fC (.int 3))) (fC (.int 0)))) (bG (f2 zj (f2 aW (ah 2) (f2 dD (f2 cj (f2 eP (ah 0) (fC (.int 3))) (f2 eP (ah 1) (fC (.int 8)))) (fC (.int 26)))) (f2 cj (fC (.int 1)) (f2 dD (ah 1) (fC (.int 8)))))) (cG)) (aJ (bR 3 (f2 cj (fC (.int 1)) (f2 dD (f2 eP (ah 0) (fC (.int 3))) (fC (.int 8))))) (aJ (bR 4 (fC (.str ""))) (aJ (kM (gl (af (ah 3) (au))) (gN 5) (aJ (bR 6 (f2 eP (ah 0) (f2 cj (fC (.int 24)) (f2 jK (f2 jK (fC (.int 11)) (ah 5)) (ah 5))))) (aJ (j3 (fB (f2 mj (ah 5) (f2 dD (f2 eP (ah 0) (fC (.int 24))) (ah 3)))) (bR 6 (f2 cj (ah 6) (ah 1))) (cG)) (aJ (bR 4 (f2 cj (ah 4) (f2 aW (ah 2) (f2 dD (ah 6) (fC (.int 26)))))) (fO [5,6] cG))))) (bG (ah 4))))))))
noncomputable def dq:cw:=aJ (j3 (fB (f2 wA (f2 dD (ah 0) (fC (.int 3))) (fC (.int 2)))) (aJ (bR 1 (f2 aW (kU (af (fC (.int 0)) (af (C6 (fC (.int 3))) (af (f2 B2 (fC (.int 0)) (f2 dD (f2 rC (ah 0) (fC (.int 7))) (f2 rC (fC (.int 10)) (fC (.int 59))))) (af (f2 dD (f2 rC (ah 0) (fC (.int 7))) (f2 rC (fC (.int 10)) (fC (.int 59)))) (au)))))) (f2 dD (f2 eP (ah 0) (fC (.int 3))) (fC (.int 4))))) (bG (cy (af (fC (.str "number")) (af (ah 1) (af (f2 cj (ah 1) (f2 aW (kU (af (fC (.int 0)) (af (fC (.int 1)) (af (fC (.int 6)) (af (f2 rC (fC (.int 10)) (fC (.int 59))) (au)))))) (f2 dD (f2 eP (ah 0) (fC (.int 12))) (fC (.int 4))))) (au))))))) (cG)) (aJ (bR 2 (fC (.str "abcdefghijklmnopqrstuvwxyz"))) (aJ (bR 3 (f2 aW (ah 2) (f2 dD (f2 eP (ah 0) (fC (.int 3))) (fC (.int 26))))) (aJ (bR 4 (f2 aW (ah 2) (f2 dD (f2 eP (ah 0) (fC (.int 78))) (fC (.int 26))))) (aJ (bR 5 (kU (af (fC (.str "")) (af (ah 3) (af (ah 4) (af (f2 cj (ah 3) (ah 4)) (af (f2 cj (ah 4) (ah 3)) (af (f2 zj (ah 3) (fC (.int 8))) (af (f2 cj (ah 3) (ah 3)) (af (f2 zj (ah 4) (fC (.int 3))) (au))))))))))) (aJ (mq 6 vN) (fO [1,2,4] (aJ (kM (gl (af (fC (.int 8)) (au))) (gN 7) (aJ (j3 (fB (f2 mj (f2 BA (f2 Gg (f2 eP (ah 0) (fC (.int 2028))) (ah 7)) (fC (.int 1))) (fC (.int 1)))) (pF 6 (f2 aW (ah 5) (ah 7)) (fC (.bl true))) (cG)) (fO [7] cG))) (aJ (j3 (md [6] (fB (f2 mj (fL wa (af (ah 6) (au))) (fC (.int 0))))) (pF 6 (ah 3) (fC (.bl true))) (cG)) (iO 6 (bG (cy (af (fC (.str "word")) (af (fL cQ (af (fL fT (af (fL qG (af (ah 6) (au))) (au))) (au))) (au))))))))))))))
end TD
namespace TD
open PySem PySem.Spec L2 TG
local macro_rules
 | `(tactic| simp! only [$xs,*])=>`(tactic| simp only [dE,wv,qX,vU,iZ,eU,ge_0,Cv,qT,BO,qR,oa,qb,qi,B7,B6,BF,C7,C3,qB,qc,vH,kC,om,qC,nG,vS,qJ,pV,nw,qa,kJ,p9,kK,j6,jt,jv,qP,nU,jm,nY,kQ,nF,nM,iy,n5,ky,oX,nJ,ku,jj,nI,nX,Cy,vd,BI,Ct,CM,qL,nZ,qg,og,nB,Cg,CB,Rf,Rg,Pq,PX,Qb,Qo,K0,env0,List.replicate,QM,Pw,QG,Nat.reduceAdd,Nat.reduceSub,Pp,P0,qD,qK,wt,pY,qy,qq,jo,p4,vv,vV,vB,qF,kH,kj,kB,kn,kz,kA,v5,vY,v7,vL,wx,v4,ko,kG,gQ,hV,pU,js,gR,gU,gS,lY,mF,hX,gY,kr,kI,nS,ny,kR,nH,qQ,pZ,ou,n0,gN,if_true,if_false,Rh,Ri,P9,$xs,*])
theorem L4 (ns:List Int) (i:Int) (h:0<=i):∃ c:Int,aG bS 2 2 [.lst (ns.map .int),.int i]=.ok (.int c):=Dy ns i h
theorem C5 (xs ys:List D):BR [.tup xs,.tup ys]=some (pM xs ys):=nr rfl
end TD
namespace TD
open PySem PySem.Spec L2 TG
local macro_rules
 | `(tactic| simp! only [$xs,*])=>`(tactic| simp only [dE,wv,qX,vU,iZ,eU,ge_0,Cv,qT,BO,qR,oa,qb,qi,B7,B6,BF,C7,C3,qB,qc,vH,kC,om,qC,nG,vS,qJ,pV,nw,qa,kJ,p9,kK,j6,jt,jv,qP,nU,jm,nY,kQ,nF,nM,iy,n5,ky,oX,nJ,ku,jj,nI,nX,Cy,vd,BI,Ct,CM,qL,nZ,qg,og,nB,Cg,CB,Rf,Rg,Pq,PX,Qb,Qo,K0,env0,List.replicate,QM,Pw,QG,Nat.reduceAdd,Nat.reduceSub,Pp,P0,qD,qK,wt,pY,qy,qq,jo,p4,vv,vV,vB,qF,kH,kj,kB,kn,kz,kA,v5,vY,v7,vL,wx,v4,ko,kG,gQ,hV,pU,js,gR,gU,gS,lY,mF,hX,gY,kr,kI,nS,ny,kR,nH,qQ,pZ,ou,n0,gN,if_true,if_false,Rh,Ri,P9,$xs,*])
theorem vt {g:GF} {B:cw} {k:Ks} {Q:R D->Prop} (Iv:Nat->aq->Prop):∀ (ds:List D) (o i:Nat) (ρ:aq) (d:D),ds[i]?=some d->(∀ j d ρ (k':Ks),j < i->ds[j]?=some d->Iv (o+j) ρ->∃ ρ1 ρ2,g d ρ=some ρ1/\Iv (o+j+1) ρ2/\B k' ρ1=k'.nx ρ2)->Iv o ρ ->
  (∀ ρ (k':Ks),Iv (o+i) ρ->∃ ρ1,g d ρ=some ρ1/\Q (B k' ρ1))->Q (gX g B k ds ρ)
 | [],_,_,_,_,h,_,_,_=>nomatch h
 | x::ds,o,0,ρ,d,h,_,hI,q=>by
  cases h;obtain⟨ρ1,e1,q1⟩:=q ρ ⟨gX g B k ds,k.nx,gX g B k ds,k.ex⟩ hI;show Q ((rO (g x ρ)).bind fun ρ1=>B ⟨gX g B k ds,k.nx,gX g B k ds,k.ex⟩ ρ1);rw [e1,eU,dE];exact q1
 | x::ds,o,i+1,ρ,d,h,st,hI,q=>by
  obtain⟨ρ1,ρ2,e1,h2,e2⟩:=st 0 x ρ ⟨gX g B k ds,k.nx,gX g B k ds,k.ex⟩ ‹0› rfl hI;show Q ((rO (g x ρ)).bind fun ρ1=>B ⟨gX g B k ds,k.nx,gX g B k ds,k.ex⟩ ρ1);rw [e1,eU,dE,e2];refine vt Iv ds (o+1) i ρ2 d (by rw [QC] at h; exact h) (fun j d' ρ' k' hj hd hI'=>?_) h2 (fun ρ' k' hI'=>q ρ' k' (by rw [show o+(i+1)=o+1+i by omega]; exact hI'));obtain⟨a,b,c1,c2,c3⟩:=st (j+1) d' ρ' k' ‹0› (by rw [QC]; exact hd) (by rw [show o+(j+1)=o+1+j by omega]; exact hI');exact⟨a,b,c1,by rw [show o+1+j+1=o+(j+1)+1 by omega]; exact c2,c3⟩
abbrev fld (p:Str×D):D:=.tup [.str p.1,p.2]
theorem uf (kf rf:List D) (ps:List (Str×D)) (hl:ps.length<=100) (e:kf++rf=ps.map fld):aG eF 1 1 [.tup [.tup kf,.tup rf]]=.ok (.tup (ps.map fun p=>.str p.1)):=by
 have hl':kf.length+rf.length<=100:=by have:=congrArg List.length e; rw [PK,Pr] at this; omega
 have f0:kP [none] (bZ (f2 cj (f2 aW (ah 0) (fC (.int 0))) (f2 aW (ah 0) (fC (.int 1))))) (gN 0) (dZ) (f2 aW (ah 0) (fC (.int 0))) [some (.val (.tup [.tup kf,.tup rf]))]=.ok (.lst (ps.map fun p=>.str p.1)):=by
  refine ip (ds:=ps.map fld) ?_ (by rw [Pr]; omega) ?_
  ·simp! only [];rw [fS _ _ ‹0›,e];simp! only []
  ·refine li _ _ ps fun p _=>⟨_,rfl,rfl,?_⟩
   simp! only []
 rw [oS]; unfold eF;simp! only [f0]
theorem Dg (xs:List D):wq [.tup xs]=some (jC 0 xs):=nr rfl
theorem uz:∀ (xs:List D) (k i:Nat),(jC k xs)[i]?=(xs[i]?).map fun x=>.tup [.int ((k+i:Nat):Int),x]
 | [],k,i=>by simp [jC]
 | x::xs,k,0=>by simp [jC]
 | x::xs,k,i+1=>by
  rw [jC,QC,uz xs (k+1) i,QC];congr 1;funext y;rw [show k+1+i=k+(i+1) by omega]
theorem zV (kf rf:List D) (ps:List (Str×D)) (hl:ps.length<=100) (e:kf++rf=ps.map fld) (hn:(ps.map (·.1)).Nodup) (i:Nat) (nm:Str) (k:D) (hi:ps[i]?=some (nm,k)) :
  aG fj 2 4 [.tup [.tup kf,.tup rf],.str nm]=.ok (.int i):=by
 have en:=uf kf rf ps hl e;rw [eR]; unfold fj;rw [iy,jj];simp! only [en,Dg];have di:(jC 0 (ps.map fun p=>D.str p.1))[i]?=some (.tup [.int ((i:Nat):Int),.str nm]):=by
  rw [uz,PF,hi,QG]; rfl
 refine vt (Q:=fun z=>z=.ok (.int i)) (fun _ ρ=>ρ=[some (.val (.tup [.tup kf,.tup rf])),some (.val (.str nm)),none,none]) _ 0 i _ _ di ?_ rfl ?_
 ·rintro j d ρ k' hj hd rfl;rw [uz,PF] at hd;have hil:=cM hi;have hjl:j < ps.length:=by omega
  rw [Qj hjl] at hd;cases hd;have ne:(ps[j].1==nm)=false:=by
   have h1:=List.pairwise_iff_getElem.mp hn j i (by rw [Pr]; exact hjl) (by rw [Pr]; exact hil) hj;rw [Rj,Rj] at h1;have h2:ps[i]=(nm,k):=(by rw [Qj hil] at hi; exact Option.some.inj hi);rw [h2] at h1
   simpa using h1
  refine⟨[some (.val (.tup [.tup kf,.tup rf])),some (.val (.str nm)),some (.val (.int ((0+j:Nat):Int))),some (.val (.str ps[j].1))],_,rfl,rfl,?_⟩;simp! only [ne]
 ·rintro ρ k' rfl;refine⟨[some (.val (.tup [.tup kf,.tup rf])),some (.val (.str nm)),some (.val (.int (i:Int))),some (.val (.str nm))],rfl,?_⟩;simp! only [BEq.rfl]
theorem BL (kf rf:List D) (ps:List (Str×D)) (hl:ps.length<=100) (e:kf++rf=ps.map fld) (i:Nat) (nm:Str) (k:D) (hi:ps[i]?=some (nm,k)):aG gh 2 2 [.tup [.tup kf,.tup rf],.int i]=.ok k:=by
 have hl':kf.length+rf.length<=100:=by have:=congrArg List.length e; rw [PK,Pr] at this; omega
 have g:aW (.tup (ps.map fld)) (.int (i:Int))=some (.tup [.str nm,k]):=by
  rw [JK,Gy,PF,hi]; rfl
 rw [eR]; unfold gh;simp! only [fS kf rf ‹0›,e,g]
theorem Ba:∀ bs:List Bool,anyB (bs.map .bl)=some (bs.any id)
 | []=>rfl
 | b::bs=>by
  show (anyB (bs.map .bl)).bind (fun c=>some (b || c))=_;rw [Ba bs]; rfl
theorem GI (bs:List Bool):C9 [.lst (bs.map .bl)]=some (.bl (bs.any id)):=by
 have e:C9 [.lst (bs.map .bl)]=(anyB (bs.map .bl)).bind fun b=>some (D.bl b):=rfl;rw [e,Ba]; rfl
end TD
namespace T4
open PySem PySem.Spec L2 TG TD
local macro_rules
 | `(tactic| simp! only [$xs,*])=>`(tactic| simp only [dE,wv,qX,vU,iZ,eU,ge_0,Cv,qT,BO,qR,oa,qb,qi,B7,B6,BF,C7,C3,qB,qc,vH,kC,om,qC,nG,vS,qJ,pV,nw,qa,kJ,p9,kK,j6,jt,jv,qP,nU,jm,nY,kQ,nF,nM,iy,n5,ky,oX,nJ,ku,jj,nI,nX,Cy,vd,BI,Ct,CM,qL,nZ,qg,og,nB,Cg,CB,Rf,Rg,Pq,PX,Qb,Qo,K0,env0,List.replicate,QM,Pw,QG,Nat.reduceAdd,Nat.reduceSub,Pp,P0,qD,qK,wt,pY,qy,qq,jo,p4,vv,vV,vB,qF,kH,kj,kB,kn,kz,kA,v5,vY,v7,vL,wx,v4,ko,kG,gQ,hV,pU,js,gR,gU,gS,lY,mF,hX,gY,kr,kI,nS,ny,kR,nH,qQ,pZ,ou,n0,gN,if_true,if_false,Rh,Ri,P9,$xs,*])
theorem Ji {x:Str} {n:Int} (h:1<=n) (h':n<=1000) (hx:x.length<=1000):zj (.str x) (.int n)=some (.str (mi x n)):=by
 show (if decide (1<=n/\n<=1000/\x.length<=1000) then some (D.str (mi x n)) else none)=_;rw [decide_eq_true ⟨h,h',hx⟩]; rfl
theorem jd (x:Int) (h0:0<=x) (h1:x < 2147483700):∃ y:Int,0<=y/\y < 2147483647/\aG aM 1 1 [.int x]=.ok (.int y):=by
 have m1:=lw (i:=x) (j:=x) ‹0› ‹0›;have m2:=lw (i:=48271) (j:=x) (by decide) (by decide);have g:=fun i=>iP (i:=i) (show (0:Int) < 2147483647 by decide);refine⟨(x*x+48271*x+11)%2147483647,Rl _ (by decide),Rm _ (by decide),?_⟩;rw [oS]; unfold aM;simp! only [m1,m2,g]
theorem xO (ns:List Int) (k:Nat) (hk:k<=100):∃ y:Int,0<=y/\y < 2147483647/\aG cT 2 3 [.lst (ns.map .int),.int k]=.ok (.int y):=by
 obtain⟨c,ec⟩:=TD.L4 ns k ‹0›;have m1:=lw (i:=69621) (j:=(k:Int)) (by decide) (by decide);have m2:=pG (i:=69621*(k:Int)) (j:=(k:Int)) ‹0› ‹0›;have g:=fun i=>iP (i:=i) (show (0:Int) < 2147483647 by decide);obtain⟨y1,a1,b1,e1⟩:=jd ((c%2147483647+69621*(k:Int)*(k:Int)+5)%2147483647) (Rl _ (by decide)) (by have:=Rm (c%2147483647+69621*(k:Int)*(k:Int)+5) (show (0:Int) < 2147483647 by decide); omega);obtain⟨y2,a2,b2,e2⟩:=jd y1 a1 ‹0›;refine⟨y2,a2,b2,?_⟩;rw [eR]; unfold cT;simp! only [ec,g,m1,m2,e1,e2]
theorem By {i:Nat} {fk fv:FX} {k:Ks} {ρ:aq} {al:List (Key×D)} {q:Key} {d v:D} (h:ρ[i]?=some (some (.own (xU al)))) (ek:fk ρ=.ok d) (hd:d=bz q) (ev:fv ρ=.ok v) (hl:al.length<=1000) :
  pF i fk fv k ρ=k.nx (ρ.set i (some (.own (xU (rK al q v))))):=by
 subst hd;have e:vp (iG al) (al.map (·.2)) (bz q) v=some (rK al q v):=by
  unfold vp;rw [vF];show (keyOf (bz q)).bind _=_;rw [lX];show (if small al.length then _ else _)=_;rw [dM ‹0›]; rfl
 unfold pF;rw [h];show uA ((fv ρ).bind fun v=>(fk ρ).bind fun q=>rO (vp (iG al) (al.map (·.2)) q v)) k ρ _=_;rw [ev,dE,ek,dE,e]; rfl
abbrev Cu (ws:List Str):List (Key×D):=ws.map fun w=>((.inr w:Key),D.bl true)
abbrev wd (ws:List Str):D:=xU (Cu ws)
def uS (ws:List Str) (w:Str):List Str:=if w∈ws then ws else ws++[w]
theorem EQ (ws:List Str) (w:Str):rK (Cu ws) (.inr w) (.bl true)=Cu (uS ws w):=by
 have e:((Cu ws).any fun p=>decide (p.1=(.inr w:Key)))=decide (w∈ws):=by
  induction ws with
  | nil=>simp
  | cons a ws ih =>
   show (decide ((.inr a:Key)=.inr w) || (Cu ws).any fun p=>decide (p.1=(.inr w:Key)))=_;rw [ih];by_cases z:a=w
   ·subst z; simp
   ·have z':¬ (.inr a:Key)=.inr w:=fun q=>z (Sum.inr.inj q);have z2:¬ w=a:=fun q=>z q.symm;simp [z',z2]
 unfold rK uS;rw [e];by_cases h:w∈ws
 ·rw [if_pos (by simpa using h),if_pos h];show (ws.map _).map _=_;rw [Q0];refine Qp fun a _=>?_;show (if (.inr a:Key)=.inr w then ((.inr a:Key),D.bl true) else ((.inr a:Key),D.bl true))=_;split <;> rfl
 ·rw [if_neg (by simpa using h),if_neg h];show _=(ws++[w]).map _;rw [Qq]; rfl
theorem Bw {ws:List Str} (w:Str) (h:ws.Nodup):(uS ws w).Nodup:=by
 unfold uS;split
 ·exact h
 ·rename_i z;exact List.nodup_append.mpr ⟨h,List.nodup_cons.mpr ⟨by simp,P6⟩,fun a ha b hb e=>by
   rw [Q5] at hb;subst hb e;exact z ha⟩
theorem yW (ws:List Str) (w:Str):(uS ws w).length<=ws.length+1:=by
 unfold uS;split
 ·omega
 ·simp
theorem HI (ws:List Str):iG (Cu ws)=ws.map D.str:=by
 show (ws.map _).map _=_;rw [Q0]; rfl
theorem EL (ws:List Str):keysOf (iG (Cu ws))=some (ws.map .inr):=by
 rw [show iG (Cu ws)=(ws.map (.inr:Str->Key)).map bz from by rw [HI,Q0]; rfl];exact cR _
theorem G2 (ws:List Str):wa [wd ws]=some (.int ws.length):=by
 show (keysOf (iG (Cu ws))).bind _=_;rw [EL];show some (D.int ((ws.map _).length:Int))=_;rw [Pr]
theorem Fu (ws:List Str):qG [wd ws]=some (.lst (ws.map .str)):=by
 show (keysOf (iG (Cu ws))).bind _=_;rw [EL];show some (D.lst (iG (Cu ws)))=_;rw [HI]
theorem mB (is:List Nat) (f:aq->R Bool) (ρ:aq):md is f ρ=Ci (f (frzs is ρ)):=nr rfl
theorem DV (i:Nat) (ρ:aq):frzs [i] ρ=frz i ρ:=nr rfl
theorem JN (i:Int) (k:Nat):Gg (.int i) (.int k)=some (.int (i / 2 ^ k)):=by
 show (if decide (0<=(k:Int)) then some (D.int (i / 2 ^ (k:Int).toNat)) else none)=_;rw [decide_eq_true ‹0›]; rfl
theorem A1 (i j:Int):BA (.int i) (.int j)=some (.int (Builtin.bitAnd i j)):=nr rfl
theorem MC (a b c d:D):pI [a,b,c,d]=some (.lst [a,b,c,d]):=nr rfl
theorem OD (a b c d:D) (i:Int) (h0:0<=i) (h1:i < 4):∃ x∈[a,b,c,d],aW (.lst [a,b,c,d]) (.int i)=some x:=by
 rcases(show i=0\/i=1\/i=2\/i=3 by omega) with z | z | z | z <;> subst z
 ·exact⟨a,by simp,rfl⟩
 ·exact⟨b,by simp,rfl⟩
 ·exact⟨c,by simp,rfl⟩
 ·exact⟨d,by simp,rfl⟩
theorem JR (B:cw) (n:Nat) (a b c d e f:D):aG B 6 n [a,b,c,d,e,f]=B K0 (env0 n [a,b,c,d,e,f]):=nr rfl
abbrev fm (ps qs:List (Str×D)):D:=.tup [.tup (ps.map fld),.tup (qs.map fld)]
theorem Bb {α:Type} {ρ:aq} {g:GF} {C:aq->R Bool} {Fe:FX} (mk:α->D) (p:α->Bool) (v:α->D):∀ xs:List α,(∀ a∈xs,∃ ρ1,g (mk a) ρ=some ρ1/\C ρ1=.ok (p a)/\(p a=true->Fe ρ1=.ok (v a))) ->
  A0 ρ g C Fe (xs.map mk)=.ok ((xs.filter p).map v)
 | [],_=>rfl
 | a::xs,h=>by
  obtain⟨ρ1,h1,h2,h3⟩:=h a O6;rw [Pq,mQ,h1,eU,dE,h2,iZ,dE,Bb mk p v xs fun b hb=>h b (O7 _ hb)];cases e:p a with
  | true=>rw [if_pos rfl,h3 e,iZ,dE,QV e]; rfl
  | false=>rw [if_neg Pn,QW (by simp [e])]
def mx (a b:Int):Int:=if b > a then b else a
end T4
namespace T4
open PySem PySem.Spec L2 TG TD
local macro_rules
 | `(tactic| simp! only [$xs,*])=>`(tactic| simp only [dE,wv,qX,vU,iZ,eU,ge_0,Cv,qT,BO,qR,oa,qb,qi,B7,B6,BF,C7,C3,qB,qc,vH,kC,om,qC,nG,vS,qJ,pV,nw,qa,kJ,p9,kK,j6,jt,jv,qP,nU,jm,nY,kQ,nF,nM,iy,n5,ky,oX,nJ,ku,jj,nI,nX,Cy,vd,BI,Ct,CM,qL,nZ,qg,og,nB,Cg,CB,Rf,Rg,Pq,PX,Qb,Qo,K0,env0,List.replicate,QM,Pw,QG,Nat.reduceAdd,Nat.reduceSub,Pp,P0,qD,qK,wt,pY,qy,qq,jo,p4,vv,vV,vB,qF,kH,kj,kB,kn,kz,kA,v5,vY,v7,vL,wx,v4,ko,kG,gQ,hV,pU,js,gR,gU,gS,lY,mF,hX,gY,kr,kI,nS,ny,kR,nH,qQ,pZ,ou,n0,gN,if_true,if_false,Rh,Ri,P9,$xs,*])
def LT:List Nat:=("abcdefghijklmnopqrstuvwxyz":Str).cps.toList
theorem Ef:∀ a < 26,∀ b < 26,LT[a]?=LT[b]?->a=b:=by decide +kernel
def stp (b:Int):Int:=([1,5,7,11,13,23]:List Int).getD (b%6).toNat 0
def kk (b k:Int):Int:=(k*stp b+b / 6)%24
def jz (b:Int):Int:=b / 144 / 24%(1+b / 144 / 3%8)
def yD (b k:Int) (w:Str):Prop :=
 (b / 144%3=0->w.length=(1+kk b k%8).toNat/\w.cps.toList[0]?=LT[((b / 144 / 3+kk b k / 8)%26).toNat]?) /\
 (b / 144%3≠0->w.cps.toList[(jz b).toNat]?=LT[((b / 144 / (24+11*jz b*jz b)+kk b k)%26).toNat]?)
theorem KN (b k:Int):0<=kk b k/\kk b k < 24:=⟨Rl _ (by decide),Rm _ (by decide)⟩
theorem Il {b k1 k2:Int} (a1:0<=k1) (a2:k1 < 24) (b1:0<=k2) (b2:k2 < 24) (h:kk b k1=kk b k2):k1=k2:=by
 unfold kk stp at h;rcases(show b%6=0\/b%6=1\/b%6=2\/b%6=3\/b%6=4\/b%6=5 by omega) with z | z | z | z | z | z <;> rw [z] at h <;> simp at h <;> omega
theorem n6 {b k1 k2:Int} {w:Str} (a1:0<=k1) (a2:k1 < 24) (b1:0<=k2) (b2:k2 < 24) (h1:yD b k1 w) (h2:yD b k2 w):k1=k2:=by
 refine Il (b:=b) a1 a2 b1 b2 ?_;have q1:=KN b k1;have q2:=KN b k2;by_cases z:b / 144%3=0
 ·obtain⟨l1,e1⟩:=h1.1 z;obtain⟨l2,e2⟩:=h2.1 z
  have:=Ef _ ‹0› _ ‹0› (e1.symm.trans e2)
  omega
 ·have:=Ef _ ‹0› _ ‹0› ((h1.2 z).symm.trans (h2.2 z))
  omega
theorem AF (x:Str) (h:x.length<=1000) (i:Int) (h0:0<=i) (h1:i < x.length):∃ y:Str,y.length=1/\y.cps.toList[0]?=x.cps.toList[i.toNat]?/\aW (.str x) (.int i)=some (.str y):=by
 have hl:x.cps.toList.length=x.length:=by simp [Str.length]
 have hi:i < x.cps.toList.length:=by omega
 have hn:i.toNat < x.cps.toList.length:=by omega
 refine⟨⟨#[x.cps.toList[i.toNat]'hn]⟩,rfl,?_,?_⟩
 ·rw [Qj hn]; rfl
 ·show (if small x.length then (pT x.cps.toList i).bind fun c=>some (D.str ⟨#[c]⟩) else none)=_;rw [dM ‹0›,if_pos rfl,rN h0 hi]; rfl
theorem wy (c:Array Nat) (hc:0 < c.size):∀ (n:Nat) (a:Array Nat),((List.replicate n c).foldl (·++·) a).toList[0]?=if a.size=0 then (if n=0 then none else c.toList[0]?) else a.toList[0]?
 | 0,a=>by
  rw [QM,List.foldl_nil];split
  ·rename_i h; simp [h]
  ·rfl
 | n+1,a=>by
  rw [QP,QQ,wy c hc n (a++c)]
  have:¬ (a++c).size=0:=by rw [Array.size_append]; omega
  rw [if_neg this,Array.toList_append];by_cases h:a.size=0
  ·rw [if_pos h,if_neg ‹0›,PB (by simp [h])];simp [h]
  ·rw [if_neg h,PD (by simp; omega)]
theorem Eg {y:Str} {n:Int} (h:1<=n) (hy:y.length=1):(mi y n).cps.toList[0]?=y.cps.toList[0]?:=by
 unfold mi;split
 ·rfl
 ·have hc:0 < y.cps.size:=by have:y.cps.size=1:=hy; omega
  rw [wy y.cps hc n.toNat #[]];split
  ·rw [if_neg ‹0›]
  ·rename_i z; exact absurd rfl z
theorem AO (x y:Str):(x++y).cps.toList=x.cps.toList++y.cps.toList:=by
 show (x.cps++y.cps).toList=_;rw [Array.toList_append]
theorem xr (x:Str):x.cps.toList.length=x.length:=by simp [Str.length]
theorem xi (b k:Int) (hb:0<=b) (hk:0<=k):∃ w:Str,aG bT 2 7 [.int b,.int k]=.ok (.str w)/\yD b k w:=by
 have LL:(("abcdefghijklmnopqrstuvwxyz":Str)).length=26:=by decide +kernel
 have hLT:LT=("abcdefghijklmnopqrstuvwxyz":Str).cps.toList:=rfl;generalize hL:("abcdefghijklmnopqrstuvwxyz":Str)=L at LL hLT;have g3:=fun i=>iP (i:=i) (show (0:Int) < 3 by decide);have g6:=fun i=>iP (i:=i) (show (0:Int) < 6 by decide);have g8:=fun i=>iP (i:=i) (show (0:Int) < 8 by decide);have g24:=fun i=>iP (i:=i) (show (0:Int) < 24 by decide);have g26:=fun i=>iP (i:=i) (show (0:Int) < 26 by decide);have d3:=fun i=>oP (i:=i) (show (0:Int) < 3 by decide) (show (3:Int) < 10 ^ 200 by decide);have d6:=fun i=>oP (i:=i) (show (0:Int) < 6 by decide) (show (6:Int) < 10 ^ 200 by decide);have d8:=fun i=>oP (i:=i) (show (0:Int) < 8 by decide) (show (8:Int) < 10 ^ 200 by decide);have d24:=fun i=>oP (i:=i) (show (0:Int) < 24 by decide) (show (24:Int) < 10 ^ 200 by decide);have d144:=fun i=>oP (i:=i) (show (0:Int) < 144 by decide) (show (144:Int) < 10 ^ 200 by decide);obtain⟨st,hst,hstp,est⟩:∃ st:Int,(0<=st/\st<=25)/\stp b=st/\aW (.lst [.int 1,.int 5,.int 7,.int 11,.int 13,.int 23]) (.int (b%6))=some (.int st):=by
  rcases(show b%6=0\/b%6=1\/b%6=2\/b%6=3\/b%6=4\/b%6=5 by omega) with z | z | z | z | z | z <;> rw [z]
  ·exact⟨1,by decide,by unfold stp; rw [z]; rfl,rfl⟩
  ·exact⟨5,by decide,by unfold stp; rw [z]; rfl,rfl⟩
  ·exact⟨7,by decide,by unfold stp; rw [z]; rfl,rfl⟩
  ·exact⟨11,by decide,by unfold stp; rw [z]; rfl,rfl⟩
  ·exact⟨13,by decide,by unfold stp; rw [z]; rfl,rfl⟩
  ·exact⟨23,by decide,by unfold stp; rw [z]; rfl,rfl⟩
 have l6:∀ a b c d e f:D,pI [a,b,c,d,e,f]=some (.lst [a,b,c,d,e,f]):=fun _ _ _ _ _ _=>rfl;have ms:=pG (i:=k) (j:=st) ‹0› ‹0›;have hkk:kk b k=(k*st+b / 6)%24:=by unfold kk; rw [hstp]
 generalize hk':(k*st+b / 6)%24=k' at hkk;have k1:0<=k'/\k' < 24:=by omega
 have hP:∀ w,yD b k w=((b / 144%3=0->w.length=(1+kk b k%8).toNat/\w.cps.toList[0]?=LT[((b / 144 / 3+kk b k / 8)%26).toNat]?)/\(b / 144%3≠0->w.cps.toList[(jz b).toNat]?=LT[((b / 144 / (24+11*jz b*jz b)+kk b k)%26).toNat]?)):=fun _=>rfl;have hj:jz b=b / 144 / 24%(1+b / 144 / 3%8):=rfl;generalize hb':b / 144=b' at hP hj;generalize jz b=j0 at hP hj;rw [hkk] at hP;simp only [hP];have b0:0<=b':=by omega
 rw [eR]; unfold bT;by_cases h:b'%3=0
 ·have h':(b'%3==0)=true:=by simp [h]
  obtain⟨y,hy,hy0,e1⟩:=AF L ‹0› ((b' / 3+k' / 8)%26) ‹0› ‹0›;have mu:=Ji (x:=y) (n:=1+k'%8) ‹0› ‹0› ‹0›;refine⟨mi y (1+k'%8),?_,fun _=>⟨by rw [yL ‹0›,hy,Nat.mul_one],by rw [Eg ‹0› hy,hy0,hLT]⟩,fun z=>absurd h z⟩;simp! only [hL,g6,l6,est,ms,d6,g24,hk',d144,hb',g3,h',d3,d8,g26,e1,g8,mu]
 ·have h':(b'%3==0)=false:=by simp [h]
  obtain⟨n,hn,hn1,hn2⟩:∃ n:Nat,1+b' / 3%8=(n:Int)/\1<=n/\n<=8:=⟨(1+b' / 3%8).toNat,by omega,by omega,by omega⟩
  rw [hn] at hj;have hj1:0<=j0/\j0 < (n:Int):=by rw [hj]; exact⟨Rl _ ‹0›,Rm _ ‹0›⟩
  have rn:=kc n ‹0›;obtain⟨T,hT⟩:∃ T:cw,T=(aJ (kM (gl (af (ah 3) (au))) (gN 5) (aJ (bR 6 (f2 eP (ah 0) (f2 cj (fC (.int 24)) (f2 jK (f2 jK (fC (.int 11)) (ah 5)) (ah 5))))) (aJ (j3 (fB (f2 mj (ah 5) (f2 dD (f2 eP (ah 0) (fC (.int 24))) (ah 3)))) (bR 6 (f2 cj (ah 6) (ah 1))) (cG)) (aJ (bR 4 (f2 cj (ah 4) (f2 aW (ah 2) (f2 dD (ah 6) (fC (.int 26)))))) (fO [5,6] cG))))) (bG (ah 4))):=⟨_,rfl⟩
  have key:∃ w:Str,(w.cps.toList[j0.toNat]?=LT[((b' / (24+11*j0*j0)+k')%26).toNat]?)/\T K0 [some (.val (.int b')),some (.val (.int k')),some (.val (.str L)),some (.val (.int n)),some (.val (.str "")),none,none]=.ok (.str w):=by
   rw [hT,iy,jj];simp! only [rn];refine fA (Q:=fun z=>∃ w:Str,(w.cps.toList[j0.toNat]?=LT[((b' / (24+11*j0*j0)+k')%26).toNat]?)/\z=.ok (.str w)) (fun i ρ=>∃ w:Str,w.length=i/\(j0 < (i:Int)->w.cps.toList[j0.toNat]?=LT[((b' / (24+11*j0*j0)+k')%26).toNat]?)/\ρ=[some (.val (.int b')),some (.val (.int k')),some (.val (.str L)),some (.val (.int n)),some (.val (.str w)),none,none]) ?_ ?_ ?_
   ·rintro i d ρ kx hd ⟨w,hw,hw2,rfl⟩;have hi:=cM hd;rw [cX] at hi;have hdi:d=.int (i:Int):=by
     rw [kT,PF,Qu hi] at hd;cases hd; simp
    subst hdi;have m1:=lw (i:=11) (j:=(i:Int)) (by decide) (by decide);have m2:=pG (i:=11*(i:Int)) (j:=(i:Int)) ‹0› ‹0›;have ii:0<=11*(i:Int)*(i:Int):=Int.mul_nonneg ‹0› ‹0›;have ii2:11*(i:Int)*(i:Int)<=11*8*8:=Int.mul_le_mul ‹0› ‹0› ‹0› (by decide);have dd:=fun z=>oP (i:=z) (show (0:Int) < 24+11*(i:Int)*(i:Int) by omega) (show 24+11*(i:Int)*(i:Int) < 10 ^ 200 by
     have:(10:Int) ^ 200 > 10000:=by decide +kernel
     omega)
    have gn:=fun z=>iP (i:=z) (show (0:Int) < (n:Int) by omega);generalize hs:b' / (24+11*(i:Int)*(i:Int))=s;by_cases hq:((i:Int)==b' / 24%(n:Int))=true
    ·obtain⟨y,hy,hy0,e1⟩:=AF L ‹0› ((s+k')%26) ‹0› ‹0›;have ad:=m9 w y ‹0› ‹0›;refine⟨_,_,rfl,⟨w++y,by rw [Bs]; omega,fun _=>?_,rfl⟩,?_⟩
     ·have eq:(i:Int)=b' / 24%(n:Int):=(by simpa using hq);rw [<- hj] at eq;subst eq;rw [AO,PB (by rw [xr]; omega),xr,hw,PL,QL,hy0,hLT,<- hs]
     simp! only [m1,m2,dd,hs,d24,gn,hq,g26,e1,ad]
    ·have hq':((i:Int)==b' / 24%(n:Int))=false:=(by simpa using hq);obtain⟨y,hy,hy0,e1⟩:=AF L ‹0› (s%26) ‹0› ‹0›;have ad:=m9 w y ‹0› ‹0›;refine⟨_,_,rfl,⟨w++y,by rw [Bs]; omega,fun z=>?_,rfl⟩,?_⟩
     ·have ne:j0≠(i:Int):=fun q=>hq (by rw [<- q,<- hj]; simp);rw [AO,PD (by rw [xr]; omega)];exact hw2 ‹0›
     simp! only [m1,m2,dd,hs,d24,gn,hq',g26,e1,ad]
   ·exact⟨"",by decide +kernel,fun z=>by omega,rfl⟩
   ·rintro ρ' ⟨w,hw,hw2,rfl⟩;rw [cX] at hw2;exact⟨w,hw2 ‹0›,by simp! only []⟩
  obtain⟨w,hw,ew⟩:=key;refine⟨w,?_,fun z=>absurd z h,fun _=>hw⟩;rw [<- hT];simp only [K0] at ew;simp! only [hL,g6,l6,est,ms,d6,g24,hk',d144,hb',g3,h',d3,g8,hn,ew]
end T4
namespace T4
open PySem PySem.Spec L2 TG TD
theorem o6 {α:Type} {motive:List α->Prop} (nil:motive []) (snoc:∀ (t:List α) (r:α),motive t->motive (t++[r])) (t:List α):motive t:=by
 have h:∀ l:List α,motive l.reverse:=fun l=>by
  induction l with
  | nil=>exact nil
  | cons a l ih=>rw [List.reverse_cons]; exact snoc _ _ ih
 have:=h t.reverse
 rw [List.reverse_reverse] at this;exact this
theorem rS:∀ {σ:List Bool} {a:List D} (m:Nat),Sh σ a->Sh (σ.take m) (a.take m)
 | _,_,0,_=>by rw [Qc,Qc]; exact .nil
 | _,_,m+1,.nil=>by rw [Qd,Qd]; exact .nil
 | _,_,m+1,.int i h=>by rw [Qe,Qe]; exact .int i (rS m h)
 | _,_,m+1,.str i h=>by rw [Qe,Qe]; exact .str i (rS m h)
theorem rV:∀ {σ:List Bool} {a:List D},Sh σ a->∃ q:List Key,a=q.map bz
 | _,_,.nil=>⟨[],rfl⟩
 | _,_,.int i h=>by
  obtain⟨q,e⟩:=rV h;exact⟨.inl i::q,by rw [Pq,e]; rfl⟩
 | _,_,.str x h=>by
  obtain⟨q,e⟩:=rV h;exact⟨.inr x::q,by rw [Pq,e]; rfl⟩
theorem ub:∀ {p q:List Key},p.map bz=q.map bz->p=q:=fun {p q} h=>by
 have:=congrArg keysOf h
 rw [cR,cR] at this;exact Option.some.inj this
theorem t9:∀ {σ:List Bool} {a b:List D} (m:Nat),Sh σ a->Sh σ b->eS a b=some true->eS (a.take m) (b.take m)=some true\/a.take m=b.take m
 | _,_,_,0,_,_,_=>.inr (by rw [Qc,Qc])
 | _,_,_,m+1,.nil,.nil,_=>.inr rfl
 | _,_,_,m+1,.int i h,.int j h',e=>by
  rw [pJ] at e;rw [Qe,Qe,pJ];by_cases z:i=j
  ·rw [if_pos z] at e ⊢;rcases t9 m h h' e with q | q
   ·exact .inl q
   ·exact .inr (by rw [z,q])
  ·rw [if_neg z] at e ⊢;exact .inl e
 | _,_,_,m+1,.str i h,.str j h',e=>by
  rw [pc] at e;rw [Qe,Qe,pc];by_cases z:i=j
  ·rw [if_pos z] at e ⊢;rcases t9 m h h' e with q | q
   ·exact .inl q
   ·exact .inr (by rw [z,q])
  ·rw [if_neg z] at e ⊢;exact .inl e
section
open Classical
variable (m:Nat)
noncomputable def Jx (acc:List (List D)) (r:List D):List (List D):=if r.take m∈acc then acc else acc++[r.take m]
noncomputable def fs (t:List (List D)):List (List D):=t.foldl (Jx m) []
noncomputable def gp (t:List (List D)) (f:List D):List (List D):=(t.filter fun r=>decide (r.take m=f)).map (List.drop m)
theorem lN (t:List (List D)) (r:List D):fs m (t++[r])=Jx m (fs m t) r:=by
 unfold fs;rw [List.foldl_append]; rfl
theorem mE {t:List (List D)} {f:List D}:f∈fs m t↔∃ r∈t,r.take m=f:=by
 induction t using o6 with
 | nil=>unfold fs; simp
 | snoc t r ih =>
  rw [lN];unfold Jx;split
  ·rename_i h;rw [ih];constructor
   ·rintro⟨x,h1,h2⟩; exact⟨x,O8 _ h1,h2⟩
   ·rintro⟨x,h1,h2⟩;rcases List.mem_append.mp h1 with z | z
    ·exact⟨x,z,h2⟩
    ·rw [List.mem_singleton.mp z] at h2;rw [h2] at h;exact ih.mp h
  ·rw [List.mem_append,ih,Q5];constructor
   ·rintro(⟨x,h1,h2⟩ | h2)
    ·exact⟨x,O8 _ h1,h2⟩
    ·exact⟨r,by simp,h2.symm⟩
   ·rintro⟨x,h1,h2⟩;rcases List.mem_append.mp h1 with z | z
    ·exact .inl ⟨x,z,h2⟩
    ·rw [List.mem_singleton.mp z] at h2;exact .inr h2.symm
theorem yt (t:List (List D)):(fs m t).Nodup:=by
 induction t using o6 with
 | nil=>exact P6
 | snoc t r ih =>
  rw [lN];unfold Jx;split
  ·exact ih
  ·rename_i h;exact List.nodup_append.mpr ⟨ih,by simp,fun a ha b hb e=>by
    rw [List.mem_singleton.mp hb] at e;rw [e] at ha; exact h ha⟩
theorem oT (t:List (List D)):(fs m t).length<=t.length:=by
 induction t using o6 with
 | nil=>exact Ph _
 | snoc t r ih =>
  rw [lN];unfold Jx;split
  ·rw [PK]; omega
  ·rw [PK,PK]; simpa using ih
theorem zC {σ:List Bool} {n:Nat} (hn:n=σ.length) {t:List (List D)} (hs:∀ r∈t,Sh σ (r.take n)) (hm:m<=n) (p:zY n t):(fs m t).Pairwise (fun a b=>eS a b=some true)/\∀ r,t.getLast?=some r->(fs m t).getLast?=some (r.take m):=by
 induction t using o6 with
 | nil=>exact⟨List.Pairwise.nil,fun r h=>by simp at h⟩
 | snoc t r ih =>
  obtain⟨p1,p2,p3⟩:=List.pairwise_append.mp p;obtain⟨i1,i2⟩:=ih (fun x hx=>hs x (O8 _ hx)) p1;have sm:∀ x∈t++[r],Sh (σ.take m) (x.take m):=fun x hx=>by
   have:=rS m (hs x hx)
   rw [Rn,Q7 hm] at this;exact this
  have le:∀ x∈t,eS (x.take m) (r.take m)=some true\/x.take m=r.take m:=fun x hx=>by
   have:=t9 m (hs x (O8 _ hx)) (hs r (by simp)) (p3 x hx r (by simp))
   rw [Rn,Rn,Q7 hm] at this;exact this
  rw [lN];unfold Jx;split
  ·rename_i h;refine⟨i1,fun x hx=>?_⟩;rw [Ro] at hx;have hx:r=x:=(by simpa using hx);subst hx;obtain⟨y,hy,ey⟩:=(mE m).mp h;have ne:t≠[]:=fun z=>by rw [z] at hy; cases hy
   have e0:=i2 _ (Rp ne);have f0:fs m t≠[]:=fun z=>by rw [z] at h; cases h
   rw [Rp f0] at e0 ⊢;have e0:=Option.some.inj e0;rcases le _ (Rq ne) with q | q
   ·-- then it comes ahead of the last
    exfalso;have hd:fs m t=(fs m t).dropLast++[(fs m t).getLast f0]:=(Rr f0).symm;rw [hd] at h i1;rcases List.mem_append.mp h with z | z
    ·have:=(List.pairwise_append.mp i1).2.2 _ z _ (List.mem_singleton.mpr rfl)
     rw [e0] at this;have a:=yF (sm r (by simp)) (sm _ (O8 _ (Rq ne))) this;rw [q] at a; cases a
    ·have:=List.mem_singleton.mp z
     rw [e0] at this;rw [this] at q;rw [lH (sm _ (O8 _ (Rq ne)))] at q;cases q
   ·rw [e0,q]
  ·rename_i h;refine⟨List.pairwise_append.mpr ⟨i1,QU _ _,fun a ha b hb=>?_⟩,fun x hx=>?_⟩
   ·rw [List.mem_singleton.mp hb];obtain⟨y,hy,ey⟩:=(mE m).mp ha;rcases le y hy with q | q
    ·rw [ey] at q; exact q
    ·rw [ey] at q;rw [q] at ha; exact absurd ha h
   ·rw [Ro] at hx ⊢;have hx:r=x:=(by simpa using hx);subst hx;simp
theorem rP (t:List (List D)) (r f:List D):gp m (t++[r]) f=gp m t f++(if r.take m=f then [r.drop m] else []):=by
 unfold gp;rw [Rt,Qq];congr 1;by_cases h:r.take m=f
 ·rw [if_pos h,QV (by simpa using h)]; rfl
 ·rw [if_neg h,QW (by simpa using h)]; rfl
noncomputable def flat (t:List (List D)):List (List D):=(fs m t).flatMap fun f=>(gp m t f).map (f++·)
theorem Gb {σ:List Bool} {n:Nat} (hn:n=σ.length) {t:List (List D)} (hs:∀ r∈t,Sh σ (r.take n)) (hm:m<=n) (p:zY n t):flat m t=t:=by
 induction t using o6 with
 | nil=>rfl
 | snoc t r ih =>
  have p1:=(List.pairwise_append.mp p).1;have i0:=ih (fun x hx=>hs x (O8 _ hx)) p1;have hr:=zC m hn hs hm p;unfold flat at i0 ⊢;rw [lN] at hr ⊢;unfold Jx at hr ⊢;have same:∀ L:List (List D),r.take m∉L->(L.flatMap fun f=>(gp m (t++[r]) f).map (f++·))=L.flatMap fun f=>(gp m t f).map (f++·):=fun L hL=>by
   induction L with
   | nil=>rfl
   | cons f L ih =>
    rw [Ru,Ru,ih fun z=>hL (O7 _ z),rP,if_neg fun z=>hL (by rw [z]; exact O6),Pw]
  split
  ·rename_i h;rw [if_pos h] at hr;have f0:fs m t≠[]:=fun z=>by rw [z] at h; cases h
   have last:=hr.2 r (by rw [Ro]; simp);rw [Rp f0] at last;have last:=Option.some.inj last;have hd:fs m t=(fs m t).dropLast++[r.take m]:=by
    rw [<- last]; exact(Rr f0).symm
   have nd:=yt m t;rw [hd] at nd;have nin:r.take m∉(fs m t).dropLast:=fun z=>(List.nodup_append.mp nd).2.2 _ z _ (List.mem_singleton.mpr rfl) rfl;rw [hd,Rv] at i0 ⊢;rw [same _ nin]
   conv=>rhs; rw [<- i0]
   rw [Qx];congr 1;rw [Rw,Rw,rP,if_pos rfl,Qq,Rx,Ry]
  ·rename_i h;rw [Rv,same _ h,i0,Rw,rP,if_pos rfl];congr 1;have e:gp m t (r.take m)=[]:=by
    unfold gp;rw [List.filter_eq_nil_iff.mpr]
    ·rfl
    ·intro x hx z;exact h ((mE m).mpr ⟨x,hx,by simpa using z⟩)
   rw [e,Qo,Rx,Ry]
end
open Classical in
theorem qm (al:List (List Key×D)) (q:List Key) (v:D):(ib al q v).map (·.1)=if q∈al.map (·.1) then al.map (·.1) else al.map (·.1)++[q]:=by
 have e:(al.any fun p=>decide (p.1=q))=true↔q∈al.map (·.1):=by
  rw [Rz,List.mem_map];simp only [decide_eq_true_eq]
 unfold ib;by_cases h:q∈al.map (·.1)
 ·rw [if_pos (e.mpr h),if_pos h,Q0];refine Qp fun p _=>?_;show (if p.1=q then (p.1,v) else p).1=p.1;split <;> rfl
 ·rw [if_neg fun z=>h (e.mp z),if_neg h,Qq]; rfl
theorem Fh {al:List (List Key×D)} {q:List Key} {v:D} {p:List Key×D} (h:p∈ib al q v):p∈al\/p=(q,v):=by
 unfold ib at h;split at h
 ·obtain⟨a,ha,e⟩:=List.mem_map.mp h;by_cases z:a.1=q
  ·rw [if_pos z] at e;exact .inr (by rw [<- e,z])
  ·rw [if_neg z] at e;exact .inl (by rw [<- e]; exact ha)
 ·rcases List.mem_append.mp h with z | z
  ·exact .inl z
  ·exact .inr (List.mem_singleton.mp z)
theorem Hf {al:List (List Key×D)} (q:List Key) (v:D) (h:(al.map (·.1)).Nodup):((ib al q v).map (·.1)).Nodup:=by
 rw [qm];split
 ·exact h
 ·rename_i z;exact List.nodup_append.mpr ⟨h,by simp,fun a ha b hb e=>by
   rw [List.mem_singleton.mp hb] at e;rw [e] at ha; exact z ha⟩
theorem Eo (al:List (List Key×D)) (q:List Key) (v:D):(ib al q v).length<=al.length+1:=by
 have:=congrArg List.length (qm al q v)
 rw [Pr] at this;rw [this];split <;> simp
theorem yI:∀ {al:List (List Key×D)} {p:List Key×D},(al.map (·.1)).Nodup->p∈al->qj al p.1=some p.2
 | a::al,p,h,hp=>by
  obtain⟨h1,h2⟩:=List.nodup_cons.mp (by simpa using h:(a.1::al.map (·.1)).Nodup);unfold qj;by_cases e:a.1=p.1
  ·rw [Q9 (by simpa using e)];rcases List.mem_cons.mp hp with z | z
   ·rw [z]; rfl
   ·exact absurd (show a.1∈al.map (·.1) from by rw [e]; exact List.mem_map.mpr ⟨p,z,rfl⟩) h1
  ·rw [Ra (by simpa using e)];rcases List.mem_cons.mp hp with z | z
   ·exact absurd (by rw [z]) e
   ·exact yI h2 z
theorem A2 (al:List (List Key×D)):Fx (encK al) (al.map (·.2))=some al:=by
 cases al with
 | nil=>rfl
 | cons p al=>exact kX (p::al)
theorem x9 (al:List (List Key×D)):nh [dh al]=some (.lst (encK al)):=by
 show (Fx (encK al) (al.map (·.2))).bind _=_;rw [A2]; rfl
theorem JA (al:List (List Key×D)) (q:List Key):Ae (dh al) (.tup (q.map bz))=qj al q:=by
 show (Fx (encK al) (al.map (·.2))).bind _=_;rw [A2];show (jH (.tup (q.map bz))).bind _=_;rw [o5]; rfl
theorem yK (al:List (List Key×D)):zZ (oU al)=some (al.map me):=by
 show (j9 (encK al) (al.map (·.2))).map _=_;rw [kX]; rfl
theorem Bt {al:List (List Key×D)} {σ:List Bool} (nd:(al.map (·.1)).Nodup) (hs:∀ p∈al,Sh σ (p.1.map bz)) (h0:σ≠[]) (hl:al.length < 64):fT [.lst (encK al)]=some (.lst (iX eD (encK al)))/\yU eD (iX eD (encK al)):=by
 have hx:∀ x∈encK al,∃ k,x=.tup k/\Sh σ k:=fun x hx=>by
  obtain⟨p,hp,rfl⟩:=List.mem_map.mp hx;exact⟨_,rfl,hs p hp⟩
 have pw:(encK al).Pairwise fun x y=>eD x≠eD y:=by
  rw [QY]
  have:=List.pairwise_map.mp nd
  exact this.imp fun {a b} ne e=>ne (ub e)
 have a:Iz (encK al):=⟨by rw [Pr]; exact hl,σ,h0,hx,pw⟩
 refine⟨?_,nD (σ:=σ) (fun x h=>by obtain⟨k,e,s⟩:=hx x h; rw [e]; exact s) pw⟩;show qW (encK al)=_;unfold qW;rw [if_pos a]
theorem Bg:∀ vs:List D,(∀ v∈vs,∃ r,v=.tup r)->∃ t:List (List D),vs=t.map .tup
 | [],_=>⟨[],rfl⟩
 | v::vs,h=>by
  obtain⟨r,e⟩:=h v O6;obtain⟨t,et⟩:=Bg vs fun v hv=>h v (O7 _ hv);exact⟨r::t,by rw [e,et]; rfl⟩
def AL:Nat->D->Prop
 | 0,d=>(∃ i,d=.int i)\/∃ x,d=.str x
 | n+1,d=>((∃ i,d=.int i)\/∃ x,d=.str x)\/∃ ds,d=.tup ds/\ds.length<=1000/\∀ x∈ds,AL n x
theorem AL.of0 {d:D} (h:AL 0 d):∀ n,AL n d
 | 0=>h
 | _+1=>.inl h
theorem AL.up:∀ {n:Nat} {d:D},AL n d->AL (n+1) d
 | 0,_,h=>.inl h
 | n+1,_,h=>by
  rcases h with h | ⟨ds,e,l,f⟩
  ·exact .inl h
  ·exact .inr ⟨ds,e,l,fun x hx=>AL.up (f x hx)⟩
theorem AL.le {n m:Nat} (h:n<=m) {d:D} (hd:AL n d):AL m d:=by
  induction m with
  | zero => have : n = 0 := by omega
            subst this; exact hd
  | succ m ih =>
    by_cases e:n=m+1
    · subst e; exact hd
    · exact AL.up (ih ‹0›)
theorem AL.tup {n:Nat} {ds:List D} (l:ds.length<=1000) (h:∀ x∈ds,AL n x):AL (n+1) (.tup ds):=.inr ⟨ds,rfl,l,h⟩
theorem vR:∀ {σ:List Bool} {a:List D},Sh σ a->∀ x∈a,AL 0 x
 | _,_,.int i h,x,hx=>by
  rcases List.mem_cons.mp hx with z | z
  ·exact .inl ⟨i,z⟩
  ·exact vR h x z
 | _,_,.str i h,x,hx=>by
  rcases List.mem_cons.mp hx with z | z
  ·exact .inr ⟨i,z⟩
  ·exact vR h x z
end T4
namespace Tk42
open PySem PySem.Spec L2 TG TX TD
def top (i:Nat):Th:=PySem.Challenge.pw_twoglass_k42_unnested.main.body.getD i (.Pass ⟨0,0,0,0⟩)
abbrev eY:Th:=inClass (top 20) 0
theorem oQ:aU ["self","name"] ["self","name"] (ax eY):=‹2›
abbrev gC:Th:=top 35
theorem uY:aU ["_law_found","_law_due","_law_one","_law_other"] ["_law_found","_law_due"] (ax gC):=‹2›
def eK (az:List D->R D):cw:=aJ (j3 (cO (ow "str" (ah 1))) (bG (o3 (ow "str" (ah 0)) (f2 mj (ah 0) (ah 1)))) (cG)) (aJ (j3 (xN (cO (ow "bool" (ah 1))) (cO (ow "bool" (ah 0)))) (bG (o3 (ow "bool" (ah 1)) (o3 (ow "bool" (ah 0)) (f2 mj (ah 0) (ah 1))))) (cG)) (aJ (j3 (cO (ow "int" (ah 1))) (bG (o3 (ow "int" (ah 0)) (f2 mj (ah 0) (ah 1)))) (cG)) (aJ (j3 (xN (jJ (cO (ow "tuple" (ah 0)))) (fB (f2 ye (fL ic (af (ah 0) (au))) (fL ic (af (ah 1) (au)))))) (bG (fC (.bl false))) (cG)) (aJ (kM (Ga (af (ah 0) (af (ah 1) (au)))) (gT 2 (uB [2,3])) (aJ (j3 (jJ (cO (fR az (af (ah 2) (af (ah 3) (au)))))) (bG (fC (.bl false))) (cG)) (fO [2,3] cG))) (bG (fC (.bl true)))))))
def az:Nat->List D->R D
 | 0=>fun _=>un
 | n+1=>aG (eK (az n)) 2 4
theorem jL (n:Nat):az (n+1)=aG (eK (az n)) 2 4:=by rw [az]
theorem cm:∀ n:Nat,Ar 2 (az n)
 | 0=>fun _ h=>absurd (by rw [az]) h
 | n+1=>by rw [jL]; exact aI
abbrev lD:Th:=inClass (top 18) 2
theorem ro:aU ["self","form","table"] ["self","form","table"] (ax lD):=‹2›
def cA:cw:=bG (ah 2)
abbrev lj:Th:=top 21
theorem yk:aU ["many","table","rows","row"] ["many","table"] (ax lj):=‹2›
def jy:cw:=aJ (mq 2 (kU (au))) (aJ (kM (bZ (ah 1)) (gN 3) (aJ (EE 2 (kP [none,some 3,some 0] (bZ (f2 aW (ah 3) (ah 0))) (gN 0) (dZ) (f2 cj (bK (ah 1) (bj) (cE (ah 2))) (ah 0)))) (fO [3] cG))) (iO 2 (bG (fL cQ (af (ah 2) (au))))))
abbrev jk:Th:=inClass (top 20) 3
theorem oA:aU ["self","form","table"] ["self","form","table"] (ax jk):=‹2›
def bo:cw:=bG (fR (aG jy 2 4) (af (fL ic (af (f2 aW (ah 1) (fC (.int 0))) (au))) (af (ah 2) (au))))
abbrev fD:Th:=inClass (top 18) 1
theorem jR:aU ["self","form"] ["self","form"] (ax fD):=‹2›
def bA:cw:=bG (ah 1)
abbrev lF:Th:=top 8
theorem yr:aU ["form"] ["form"] (ax lF):=‹2›
abbrev n8:Th:=top 13
theorem Ao:aU ["form","place"] ["form","place"] (ax n8):=‹2›
abbrev lV:Th:=top 9
theorem yN:aU ["form","name","place","other"] ["form","name"] (ax lV):=‹2›
abbrev eI:Th:=inClass (top 20) 2
theorem iY:aU ["self","form","kind","key","inner"] ["self","form"] (ax eI):=‹2›
def aR:cw:=aJ (bR 2 (fR (aG gh 2 2) (af (ah 1) (af (fR (aG fj 2 4) (af (ah 1) (af (f1 (sO "name" ["Unnest"]) (ah 0)) (au)))) (au))))) (aJ (j3 (xN (fB (f2 ye (f2 aW (ah 2) (fC (.int 0))) (fC (.str "rows")))) (fB (f2 ye (fL ic (af (f2 aW (ah 1) (fC (.int 1))) (au))) (fC (.int 1))))) (vn) (cG)) (aJ (bR 3 (f2 aW (ah 1) (fC (.int 0)))) (aJ (bR 4 (f2 aW (ah 2) (fC (.int 1)))) (aJ (j3 (cO (fL C9 (af (kP [none,some 4] (bZ (ah 3)) (gN 0) (dZ) (f2 Ls (f2 aW (ah 0) (fC (.int 0))) (fR (aG eF 1 1) (af (ah 1) (au))))) (au)))) (vn) (cG)) (aJ (j3 (fB (f2 M0 (f2 cj (fL ic (af (ah 3) (au))) (fL ic (af (f2 aW (ah 4) (fC (.int 0))) (au)))) (fC (.int 8)))) (vn) (cG)) (bG (cy (af (f2 cj (ah 3) (f2 aW (ah 4) (fC (.int 0)))) (af (f2 aW (ah 4) (fC (.int 1))) (au))))))))))
abbrev lU:Th:=inClass (top 18) 3
theorem yT:aU ["self","form","table","view"] ["self","form","table","view"] (ax lU):=‹2›
def g9:cw:=bG (ah 3)
abbrev jN:Th:=top 11
theorem wZ:aU ["many","rows"] ["many","rows"] (ax jN):=‹2›
noncomputable def iE:cw:=bG (fL cQ (af (f2 p6 (ah 1) (ah 0)) (au)))
abbrev pP:Th:=top 14
theorem BG:aU ["many","rows"] ["many","rows"] (ax pP):=‹2›
def mP:cw:=bG (fL wL (af (kP [none,some 0] (bZ (ah 1)) (gN 0) (dZ) (cy (af (bK (ah 0) (bj) (cE (ah 1))) (af (ah 0) (au))))) (au)))
abbrev ly:Th:=top 16
theorem yH:aU ["many","rows","others","taken"] ["many","rows","others"] (ax ly):=‹2›
noncomputable def jA:cw:=aJ (bR 3 (fR (aG mP 2 2) (af (ah 0) (af (ah 1) (au))))) (bG (fR (aG iE 2 2) (af (ah 0) (af (f2 cj (fL pN (af (ah 1) (au))) (kP [none,some 0,some 3] (bZ (ah 2)) (gN 0) (fB (f2 xj (bK (ah 0) (bj) (cE (ah 1))) (ah 2))) (ah 0))) (au)))))
abbrev nu:Th:=top 15
theorem Ah:aU ["many","rows","groups","row"] ["many","rows"] (ax nu):=‹2›
def jn:cw:=aJ (ym 2) (aJ (kM (bZ (ah 1)) (gN 3) (aJ (CL 2 (bK (ah 3) (bj) (cE (ah 0))) (bK (ah 3) (cE (ah 0)) (bj))) (fO [3] cG))) (vD 2 (bG (fL tO (af (kP [none,none] (lW (ah 2)) (gT 2 (uB [0,1])) (dZ) (cy (af (ah 0) (af (fL cQ (af (ah 1) (au))) (au))))) (au))))))
abbrev ji:Th:=inClass (top 20) 4
theorem uW:aU ["self","form","table","view","many","rows"] ["self","form","table","view"] (ax ji):=‹2›
noncomputable def de:cw:=aJ (bR 4 (fL ic (af (f2 aW (ah 1) (fC (.int 0))) (au)))) (aJ (bR 5 (kP [none,none] (lW (fR (aG jn 2 4) (af (ah 4) (af (ah 3) (au))))) (gT 2 (uB [0,1])) (dZ) (f2 cj (ah 0) (cy (af (ah 1) (au)))))) (bG (fR (aG jA 3 4) (af (ah 4) (af (ah 5) (af (kP [none,some 4] (bZ (ah 2)) (gN 0) (fB (f2 mj (f2 aW (ah 0) (ah 1)) (cy (au)))) (ah 0)) (au)))))))
abbrev jg:Th:=inClass (top 18) 4
theorem oB:aU ["self","form"] ["self","form"] (ax jg):=‹2›
def cp:cw:=bG (fC (.bl true))
abbrev gI:Th:=inClass (top 20) 5
theorem iV:aU ["self","form"] ["self","form"] (ax gI):=‹2›
def aN:cw:=bG (f2 aW (fR (aG gh 2 2) (af (ah 1) (af (fR (aG fj 2 4) (af (ah 1) (af (f1 (sO "name" ["Unnest"]) (ah 0)) (au)))) (au)))) (fC (.int 2)))
abbrev iu:Th:=top 38
theorem tM:aU ["_law_table_here","_law_many","_law_firsts","_law_row_here","_law_found","_law_first"] ["_law_table_here","_law_many"] (ax iu):=‹2›
noncomputable def du:cw:=aJ (mq 2 vN) (aJ (kM (bZ (ah 0)) (gN 3) (tq 2 (bK (ah 3) (bj) (cE (ah 1))) (fC (.bl true)))) (aJ (mq 4 (kU (au))) (iO 2 (aJ (kM (bZ (fL fT (af (fL nh (af (ah 2) (au))) (au)))) (gN 5) (aJ (AJ 4 gb (af (f2 cj (ah 5) (cy (af (fL cQ (af (kP [none,some 1,some 5] (bZ (ah 0)) (gN 0) (fB (f2 mj (bK (ah 0) (bj) (cE (ah 1))) (ah 2))) (bK (ah 0) (cE (ah 1)) (bj))) (au))) (au)))) (au))) (fO [5] cG))) (iO 4 (bG (fL cQ (af (ah 4) (au)))))))))
abbrev jU:Th:=top 24
theorem xL:aU ["_law_x"] ["_law_x"] (ax jU):=‹2›
abbrev iq:Th:=top 32
theorem tD:aU ["_law_many","_law_rows_here","_law_found","_law_row_here"] ["_law_many","_law_rows_here"] (ax iq):=‹2›
noncomputable def bi:cw:=aJ (mq 2 vN) (aJ (kM (bZ (ah 1)) (gN 3) (aJ (tq 2 (bK (ah 3) (bj) (cE (ah 0))) (ah 3)) (fO [3] cG))) (iO 2 (bG (fL cQ (af (kP [none,some 2] (bZ (fL fT (af (fL nh (af (ah 2) (au))) (au)))) (gN 0) (dZ) (f2 Ae (ah 1) (ah 0))) (au))))))
abbrev gA:Th:=top 30
theorem uJ:aU ["_law_kind_here","_law_x"] ["_law_kind_here","_law_x"] (ax gA):=‹2›
abbrev jD:Th:=top 31
theorem yE:aU ["_law_form_here","_law_many","_law_head","_law_tail","_law_row_here","_law_name_here","_law_kind_here"] ["_law_form_here","_law_many","_law_head","_law_tail"] (ax jD):=‹2›
abbrev iL:Th:=top 33
theorem wB:aU ["_law_form_here","_law_x","_law_many","_law_rows_here","_law_k"] ["_law_form_here","_law_x","_law_many"] (ax iL):=‹2›
noncomputable def gx (aA aF aD:List D->R D):cw:=aJ (j3 (fB (f2 mj (f2 aW (ah 0) (fC (.int 0))) (fC (.str "number")))) (bG (f2 cj (f2 aW (ah 0) (fC (.int 1))) (f2 dD (f2 rC (ah 1) (fC (.int 7))) (f2 cj (f2 B2 (f2 aW (ah 0) (fC (.int 2))) (f2 aW (ah 0) (fC (.int 1)))) (fC (.int 1)))))) (cG)) (aJ (j3 (fB (f2 mj (f2 aW (ah 0) (fC (.int 0))) (fC (.str "word")))) (bG (f2 aW (f2 aW (ah 0) (fC (.int 1))) (f2 dD (ah 1) (fL ic (af (f2 aW (ah 0) (fC (.int 1))) (au)))))) (cG)) (bG (fR aD (af (f2 aW (ah 0) (fC (.int 1))) (af (f2 eP (ah 1) (fC (.int 3))) (af (fL sE (af (f2 dD (ah 1) (fC (.int 3))) (af (fL Bu (af (f2 aW (ah 0) (fC (.int 2))) (au))) (au)))) (au)))))))
noncomputable def lI (aA aF aD:List D->R D):cw:=aJ (mq 4 (kU (au))) (aJ (kM (bZ (f2 cj (f2 aW (ah 0) (fC (.int 0))) (f2 aW (ah 0) (fC (.int 1))))) (gT 2 (uB [5,6])) (aJ (j3 (md [4] (fB (f2 wA (fL ic (af (ah 4) (au))) (ah 1)))) (aJ (bR 2 (fR (aG aM 1 1) (af (ah 2) (au)))) (AJ 4 gb (af (fR aA (af (ah 6) (af (ah 2) (au)))) (au)))) (aJ (bR 3 (fR (aG aM 1 1) (af (ah 3) (au)))) (AJ 4 gb (af (fR aA (af (ah 6) (af (ah 3) (au)))) (au))))) (fO [5,6] cG))) (iO 4 (bG (fL cQ (af (ah 4) (au))))))
noncomputable def jO (aA aF aD:List D->R D):cw:=aJ (mq 3 (kU (au))) (aJ (kM (gl (af (ah 2) (au))) (gN 4) (aJ (bR 1 (fR (aG aM 1 1) (af (ah 1) (au)))) (aJ (AJ 3 gb (af (fR aF (af (ah 0) (af (fC (.int 0)) (af (fC (.int 0)) (af (ah 1) (au)))))) (au))) (fO [4] cG)))) (iO 3 (bG (fR (aG bi 2 4) (af (fL ic (af (f2 aW (ah 0) (fC (.int 0))) (au))) (af (ah 3) (au)))))))
mutual
noncomputable def aA:Nat->List D->R D
 | 0=>fun _=>un
 | n+1=>aG (gx (aA n) (aF n) (aD n)) 2 2
noncomputable def aF:Nat->List D->R D
 | 0=>fun _=>un
 | n+1=>aG (lI (aA n) (aF n) (aD n)) 4 7
noncomputable def aD:Nat->List D->R D
 | 0=>fun _=>un
 | n+1=>aG (jO (aA n) (aF n) (aD n)) 3 5
end
theorem eX (n:Nat):aA (n+1)=aG (gx (aA n) (aF n) (aD n)) 2 2:=by rw [aA]
theorem iW:∀ n:Nat,Ar 2 (aA n)
 | 0=>fun _ h=>absurd (by rw [aA]) h
 | n+1=>by rw [eX]; exact aI
theorem iN (n:Nat):aF (n+1)=aG (lI (aA n) (aF n) (aD n)) 4 7:=by rw [aF]
theorem fP:∀ n:Nat,Ar 4 (aF n)
 | 0=>fun _ h=>absurd (by rw [aF]) h
 | n+1=>by rw [iN]; exact aI
theorem hJ (n:Nat):aD (n+1)=aG (jO (aA n) (aF n) (aD n)) 3 5:=by rw [aD]
theorem gG:∀ n:Nat,Ar 3 (aD n)
 | 0=>fun _ h=>absurd (by rw [aD]) h
 | n+1=>by rw [hJ]; exact aI
abbrev fJ:Th:=top 37
theorem pD:aU ["_law_form_here","_law_inner"] ["_law_form_here"] (ax fJ):=‹2›
def cu:cw:=aJ (bR 1 (f2 aW (f2 aW (f2 aW (f2 aW (ah 0) (fC (.int 1))) (fC (.int 0))) (fC (.int 1))) (fC (.int 1)))) (bG (cy (af (f2 cj (f2 aW (ah 0) (fC (.int 0))) (f2 aW (ah 1) (fC (.int 0)))) (af (f2 aW (ah 1) (fC (.int 1))) (au)))))
abbrev jb:Th:=top 40
theorem uO:aU ["_law_step","_law_form_here","_law_extra","_law_x","_law_kind_here","_law_key","_law_other","_law_flat","_law_rows_here","_law_table_here"] ["_law_step","_law_form_here","_law_extra","_law_x"] (ax jb):=‹2›
noncomputable def fH:cw:=aJ (bR 4 (f2 aW (f2 aW (f2 aW (ah 1) (fC (.int 1))) (fC (.int 0))) (fC (.int 1)))) (aJ (bR 5 (f2 cj (f2 aW (ah 1) (fC (.int 0))) (cy (af (cy (af (ah 2) (af (cy (af (fC (.str "number")) (af (fC (.int 0)) (af (fC (.int 9)) (au))))) (au)))) (au))))) (aJ (j3 (fB (f2 M0 (f2 cj (fL ic (af (f2 aW (ah 1) (fC (.int 0))) (au))) (fL ic (af (f2 aW (f2 aW (ah 4) (fC (.int 1))) (fC (.int 0))) (au)))) (fC (.int 7)))) (bR 5 (bK (f2 aW (ah 1) (fC (.int 0))) (bj) (cE (fC (.int 1))))) (cG)) (aJ (bR 6 (cy (af (ah 5) (af (cy (af (cy (af (f1 (sO "name" ["Unnest"]) (ah 0)) (af (cy (af (fC (.str "rows")) (af (cy (af (bK (f2 aW (f2 aW (ah 4) (fC (.int 1))) (fC (.int 0))) (bj) (cE (fC (.int 1)))) (af (bK (f2 aW (f2 aW (ah 4) (fC (.int 1))) (fC (.int 1))) (cE (fC (.int 1))) (bj)) (au)))) (af (x5 (f2 aW (ah 4) (fC (.int 2)))) (au))))) (au)))) (au))) (au))))) (aJ (bR 7 (fR (aG cu 1 2) (af (ah 6) (au)))) (aJ (bR 8 (fR (aD 20) (af (ah 7) (af (ah 3) (af (fC (.int 5)) (au)))))) (aJ (bR 9 (fR (aG du 2 6) (af (ah 8) (af (fL ic (af (ah 5) (au))) (au))))) (aJ (j3 (xN (jJ (cO (fR (az 20) (af (cq "view_form" [("Step",(aG bA 2 2)),("Unnest",(aG aR 2 5))] (ah 0) (af (ah 6) (au))) (af (ah 7) (au)))))) (fB (f2 mj (cq "exact" [("Step",(aG cp 2 2)),("Unnest",(aG aN 2 2))] (ah 0) (af (ah 6) (au))) (f2 aW (ah 4) (fC (.int 2)))))) (bG (fC (.bl false))) (cG)) (bG (o3 (fR (az 20) (af (cq "got" [("Step",(aG cA 3 3)),("Unnest",(aG bo 3 3))] (ah 0) (af (ah 6) (af (ah 9) (au)))) (af (ah 8) (au)))) (fR (az 20) (af (cq "put" [("Step",(aG g9 4 4)),("Unnest",(aG de 4 6))] (ah 0) (af (ah 6) (af (cy (au)) (af (ah 8) (au))))) (af (ah 9) (au)))))))))))))
abbrev jP:Th:=top 26
theorem xo:aU ["_law_base","_law_k","_law_letters","_law_size","_law_name_here","_law_j","_law_step"] ["_law_base","_law_k"] (ax jP):=‹2›
abbrev gD:Th:=top 23
theorem rH:aU ["_law_script","_law_k"] ["_law_script","_law_k"] (ax gD):=‹2›
abbrev iA:Th:=inClass (top 18) 5
theorem uj:aU ["self","form"] ["self","form"] (ax iA):=‹2›
def dA:cw:=bG (fC (.bl true))
abbrev fX:Th:=inClass (top 20) 6
theorem qe:aU ["self","form"] ["self","form"] (ax fX):=‹2›
def bV:cw:=bG (cq "exact" [("Unnest",(aG aN 2 2))] (ah 0) (af (ah 1) (au)))
abbrev i6:Th:=inClass (top 18) 0
theorem uG:aU ["self"] ["self"] (ax i6):=‹2›
def fG:cw:=bG (cy (au))
abbrev gz:Th:=inClass (top 20) 1
theorem rB:aU ["self"] ["self"] (ax gz):=‹2›
def cV:cw:=bG (cy (af (fC (.str "unnest")) (af (f1 (sO "name" ["Unnest"]) (ah 0)) (au))))
abbrev eW:Th:=top 39
theorem oO:aU ["_law_form_here","_law_nested_here","_law_xs","_law_rows_here","_law_keys","_law_x","_law_key"] ["_law_form_here","_law_nested_here","_law_xs"] (ax eW):=‹2›
noncomputable def dR:cw:=aJ (mq 3 (fL pN (af (ah 1) (au)))) (aJ (mq 4 (kP [none] (bZ (ah 1)) (gN 0) (dZ) (bK (ah 0) (bj) (cE (C6 (fC (.int 1))))))) (fO [1] (aJ (kM (bZ (ah 2)) (gN 5) (aJ (bR 6 (fR (aF 20) (af (cy (af (f2 aW (ah 0) (fC (.int 0))) (af (cy (au)) (au)))) (af (fC (.int 0)) (af (fC (.int 0)) (af (ah 5) (au))))))) (aJ (j3 (md [4] (fB (f2 wN (ah 6) (ah 4)))) (aJ (AJ 4 gb (af (ah 6) (au))) (AJ 3 gb (af (f2 cj (ah 6) (cy (af (cy (au)) (au)))) (au)))) (cG)) (fO [5,6] cG)))) (iO 3 (bG (fR (aG bi 2 4) (af (fL ic (af (f2 aW (ah 0) (fC (.int 0))) (au))) (af (ah 3) (au)))))))))
abbrev jS:Th:=top 25
theorem wW:aU ["_law_script","_law_k","_law_x"] ["_law_script","_law_k"] (ax jS):=‹2›
abbrev je:Th:=top 34
theorem uP:aU ["_law_form_here","_law_many","_law_script","_law_start","_law_most","_law_rows_here","_law_k","_law_x"] ["_law_form_here","_law_many","_law_script","_law_start","_law_most"] (ax je):=‹2›
noncomputable def gJ:cw:=aJ (mq 5 (kU (au))) (aJ (kM (sg (af (ah 3) (af (fL yV (af (fL sE (af (fL ic (af (ah 2) (au))) (af (f2 cj (ah 3) (fC (.int 5))) (au)))) (af (f2 cj (ah 3) (ah 4)) (au)))) (au)))) (gN 6) (aJ (bR 7 (fR (aG cT 2 3) (af (ah 2) (af (ah 6) (au))))) (aJ (AJ 5 gb (af (fR (aF 20) (af (ah 0) (af (ah 1) (af (f2 aW (kU (af (f2 dD (f2 eP (ah 7) (fC (.int 2))) (fC (.int 4))) (af (f2 eP (ah 7) (fC (.int 2))) (au)))) (f2 dD (ah 7) (fC (.int 2)))) (af (fR (aG aM 1 1) (af (ah 7) (au))) (au)))))) (au))) (fO [6,7] cG)))) (iO 5 (bG (fR (aG bi 2 4) (af (fL ic (af (f2 aW (ah 0) (fC (.int 0))) (au))) (af (ah 5) (au)))))))
abbrev jh:Th:=top 27
theorem uU:aU ["_law_x","_law_low","_law_letters","_law_one","_law_other","_law_some","_law_kept","_law_k"] ["_law_x"] (ax jh):=‹2›
abbrev iD:Th:=top 28
theorem wX:aU ["_law_x","_law_base","_law_deep","_law_inner"] ["_law_x","_law_base","_law_deep"] (ax iD):=‹2›
abbrev iK:Th:=top 29
theorem wD:aU ["_law_x","_law_base","_law_start","_law_many","_law_more","_law_deep","_law_key","_law_rest","_law_k"] ["_law_x","_law_base","_law_start","_law_many","_law_more","_law_deep"] (ax iK):=‹2›
noncomputable def iB (bd aP:List D->R D):cw:=aJ (j3 (xN (fB (f2 mj (ah 2) (fC (.int 0)))) (fB (f2 wA (f2 dD (ah 0) (fC (.int 3))) (fC (.int 2))))) (bG (fR (aG dq 1 8) (af (f2 eP (ah 0) (fC (.int 3))) (au)))) (cG)) (aJ (bR 3 (fR aP (af (f2 eP (ah 0) (fC (.int 3))) (af (ah 1) (af (f2 dD (f2 eP (ah 0) (fC (.int 36))) (fC (.int 12))) (af (f2 cj (fC (.int 1)) (f2 dD (f2 eP (ah 0) (fC (.int 3))) (fC (.int 2)))) (af (f2 dD (f2 eP (ah 0) (fC (.int 6))) (fC (.int 3))) (af (f2 B2 (ah 2) (fC (.int 1))) (au))))))))) (bG (cy (af (fC (.str "rows")) (af (ah 3) (af (f2 mj (f2 dD (f2 eP (ah 0) (fC (.int 18))) (fC (.int 2))) (fC (.int 1))) (au)))))))
noncomputable def jT (bd aP:List D->R D):cw:=aJ (mq 6 (kU (au))) (aJ (mq 7 (kU (au))) (aJ (kM (gl (af (f2 cj (ah 3) (ah 4)) (au))) (gN 8) (aJ (bR 0 (fR (aG aM 1 1) (af (ah 0) (au)))) (aJ (j3 (fB (f2 wA (ah 8) (ah 3))) (AJ 6 gb (af (cy (af (fR (aG bT 2 7) (af (ah 1) (af (f2 cj (ah 2) (ah 8)) (au)))) (af (fR (aG dq 1 8) (af (ah 0) (au))) (au)))) (au))) (AJ 7 gb (af (cy (af (fR (aG bT 2 7) (af (ah 1) (af (f2 cj (ah 2) (ah 8)) (au)))) (af (fR bd (af (ah 0) (af (ah 1) (af (ah 5) (au))))) (au)))) (au)))) (fO [8] cG)))) (iO 7 (iO 6 (bG (cy (af (fL cQ (af (ah 6) (au))) (af (fL cQ (af (ah 7) (au))) (au)))))))))
mutual
noncomputable def bd:Nat->List D->R D
 | 0=>fun _=>un
 | n+1=>aG (iB (bd n) (aP n)) 3 4
noncomputable def aP:Nat->List D->R D
 | 0=>fun _=>un
 | n+1=>aG (jT (bd n) (aP n)) 6 9
end
theorem fI (n:Nat):bd (n+1)=aG (iB (bd n) (aP n)) 3 4:=by rw [bd]
theorem mM:∀ n:Nat,Ar 3 (bd n)
 | 0=>fun _ h=>absurd (by rw [bd]) h
 | n+1=>by rw [fI]; exact aI
theorem gV (n:Nat):aP (n+1)=aG (jT (bd n) (aP n)) 6 9:=by rw [aP]
theorem gH:∀ n:Nat,Ar 6 (aP n)
 | 0=>fun _ h=>absurd (by rw [aP]) h
 | n+1=>by rw [gV]; exact aI
abbrev eJ:Th:=top 36
theorem oy:aU ["_law_script","_law_some","_law_x","_law_base","_law_many","_law_inside","_law_key","_law_deep","_law_inner","_law_name_here"] ["_law_script","_law_some"] (ax eJ):=‹2›
noncomputable def dG:cw:=aJ (bR 2 (fR (aG cT 2 3) (af (ah 0) (af (fC (.int 0)) (au))))) (aJ (bR 3 (f2 dD (f2 jK (fR (aG bS 2 2) (af (ah 0) (af (fC (.int 1)) (au)))) (fC (.int 48271))) (fC (.int 2147483647)))) (aJ (bR 4 (f2 cj (fC (.int 1)) (f2 dD (ah 2) (fC (.int 4))))) (aJ (bR 5 (f2 cj (fC (.int 1)) (f2 dD (f2 eP (ah 2) (fC (.int 4))) (fC (.int 4))))) (aJ (j3 (fB (f2 mj (f2 dD (f2 eP (ah 2) (fC (.int 16))) (fC (.int 8))) (fC (.int 3)))) (aJ (bR 4 (f2 B2 (fC (.int 7)) (f2 dD (f2 eP (ah 2) (fC (.int 128))) (fC (.int 3))))) (bR 5 (f2 B2 (fC (.int 8)) (ah 4)))) (cG)) (aJ (bR 6 (f2 aW (fR (aP 20) (af (fR (aG aM 1 1) (af (ah 2) (au))) (af (ah 3) (af (fC (.int 0)) (af (ah 4) (af (fC (.int 0)) (af (fC (.int 0)) (au)))))))) (fC (.int 0)))) (aJ (bR 7 (f2 aW (kU (af (fC (.int 0)) (af (fC (.int 0)) (af (fC (.int 1)) (af (fC (.int 2)) (au)))))) (f2 dD (f2 eP (ah 2) (fC (.int 1024))) (fC (.int 4))))) (aJ (bR 8 (fR (aP 20) (af (f2 cj (fR (aG aM 1 1) (af (ah 2) (au))) (fC (.int 1))) (af (ah 3) (af (fC (.int 8)) (af (ah 5) (af (f2 dD (f2 eP (ah 2) (fC (.int 4096))) (fC (.int 4))) (af (ah 7) (au))))))))) (aJ (bR 9 (fR (aG bT 2 7) (af (ah 3) (af (f2 aW (kU (af (fC (.int 16)) (af (fC (.int 8)) (af (fC (.int 23)) (af (fC (.int 17)) (au)))))) (f2 dD (f2 eP (ah 2) (fC (.int 16384))) (fC (.int 4)))) (au))))) (bG (cy (af (ah 6) (af (cy (af (cy (af (ah 9) (af (cy (af (fC (.str "rows")) (af (ah 8) (af (ah 1) (au))))) (au)))) (au))) (au)))))))))))))
abbrev uw:Th:=top 41
theorem JD:aU ["_law_script","_law_x","_law_some","_law_form_here","_law_many","_law_flat","_law_rows_here","_law_table_here","_law_name_here","_law_step","_law_extra"] ["_law_script"] (ax uw):=‹2›
noncomputable def tN:cw:=aJ (bR 1 (fR (aG aM 1 1) (af (fR (aG cT 2 3) (af (ah 0) (af (fC (.int 2)) (au)))) (au)))) (aJ (bR 2 (f2 mj (f2 dD (ah 1) (fC (.int 2))) (fC (.int 1)))) (aJ (bR 3 (fR (aG dG 2 10) (af (ah 0) (af (ah 2) (au))))) (aJ (bR 4 (fL ic (af (f2 aW (ah 3) (fC (.int 0))) (au)))) (aJ (bR 5 (fR (aG cu 1 2) (af (ah 3) (au)))) (aJ (bR 6 (fR (aG gJ 5 8) (af (ah 5) (af (ah 4) (af (ah 0) (af (fC (.int 2)) (af (fC (.int 50)) (au)))))))) (aJ (bR 7 (fR (aG du 2 6) (af (ah 6) (af (ah 4) (au))))) (aJ (j3 (jJ (cO (ah 2))) (bR 7 (fR (aG dR 3 7) (af (ah 3) (af (ah 7) (af (kP [none,some 1] (gl (af (f2 dD (f2 eP (ah 1) (fC (.int 2))) (fC (.int 6))) (au))) (gN 0) (dZ) (fR (aG aM 1 1) (af (f2 cj (ah 1) (f2 jK (f2 jK (fC (.int 7)) (ah 0)) (ah 0))) (au)))) (au)))))) (cG)) (aJ (bR 8 (f2 aW (f2 aW (f2 aW (ah 3) (fC (.int 1))) (fC (.int 0))) (fC (.int 0)))) (aJ (bR 9 (fNew "Unnest" ["name"] (af (ah 8) (au)))) (aJ (j3 (xN (jJ (cO (fR (az 20) (af (cq "view_form" [("Step",(aG bA 2 2)),("Unnest",(aG aR 2 5))] (ah 9) (af (ah 3) (au))) (af (ah 5) (au)))))) (jJ (cO (fR (az 20) (af (cq "words" [("Step",(aG fG 1 1)),("Unnest",(aG cV 1 1))] (ah 9) au) (af (cy (af (fC (.str "unnest")) (af (ah 8) (au)))) (au))))))) (bG (fC (.bl false))) (cG)) (aJ (j3 (xN (jJ (cO (ow "bool" (cq "exact" [("Step",(aG cp 2 2)),("Unnest",(aG aN 2 2))] (ah 9) (af (ah 3) (au)))))) (jJ (cO (ow "bool" (cq "steady" [("Step",(aG dA 2 2)),("Unnest",(aG bV 2 2))] (ah 9) (af (ah 3) (au))))))) (bG (fC (.bl false))) (cG)) (aJ (j3 (xN (fB (f2 ye (cq "exact" [("Step",(aG cp 2 2)),("Unnest",(aG aN 2 2))] (ah 9) (af (ah 3) (au))) (ah 2))) (fB (f2 ye (cq "steady" [("Step",(aG dA 2 2)),("Unnest",(aG bV 2 2))] (ah 9) (af (ah 3) (au))) (ah 2)))) (bG (fC (.bl false))) (cG)) (aJ (j3 (xN (jJ (cO (fR (az 20) (af (cq "got" [("Step",(aG cA 3 3)),("Unnest",(aG bo 3 3))] (ah 9) (af (ah 3) (af (ah 7) (au)))) (af (ah 6) (au)))))) (fB (f2 ye (cq "got" [("Step",(aG cA 3 3)),("Unnest",(aG bo 3 3))] (ah 9) (af (ah 3) (af (cy (au)) (au)))) (cy (au))))) (bG (fC (.bl false))) (cG)) (aJ (bR 10 (fR (aG bT 2 7) (af (f2 dD (f2 jK (fR (aG bS 2 2) (af (ah 0) (af (fC (.int 1)) (au)))) (fC (.int 48271))) (fC (.int 2147483647))) (af (fC (.int 22)) (au))))) (aJ (j3 (xN (jJ (cO (fR (aG fH 4 10) (af (ah 9) (af (ah 3) (af (ah 10) (af (ah 1) (au)))))))) (jJ (cO (fR (az 20) (af (cq "view_form" [("Step",(aG bA 2 2)),("Unnest",(aG aR 2 5))] (ah 9) (af (ah 3) (au))) (af (ah 5) (au))))))) (bG (fC (.bl false))) (cG)) (bG (fR (az 20) (af (cq "got" [("Step",(aG cA 3 3)),("Unnest",(aG bo 3 3))] (ah 9) (af (ah 3) (af (ah 7) (au)))) (af (ah 6) (au))))))))))))))))))))
theorem Mz:(["within","row","many"]:List Str).Nodup:=by decide +kernel
theorem MV:(["field"]:List Str).Nodup:=by decide +kernel
theorem Mv:(["field","inner"]:List Str).Nodup:=by decide +kernel
theorem Nr:(["row","many"]:List Str).Nodup:=by decide +kernel
theorem Mu:(["row","many","taken"]:List Str).Nodup:=by decide +kernel
theorem K3:(["key","within"]:List Str).Nodup:=by decide +kernel
theorem Gw:(["key","within"]:List Str).Nodup:=by decide +kernel
theorem NW:(["row","many"]:List Str).Nodup:=by decide +kernel
theorem Nk:(["_law_row_here","_law_many","_law_first"]:List Str).Nodup:=by decide +kernel
theorem Ng:(["_law_key","_law_found"]:List Str).Nodup:=by decide +kernel
theorem Hv:(["_law_row_here"]:List Str).Nodup:=by decide +kernel
theorem Kx:(["_law_k","_law_x"]:List Str).Nodup:=by decide +kernel
section
variable {P:S0} {w:SZ} {K:RL} {mg:Str->Option SY} {base:S5} [aX]
theorem vc {n:Nat} {f:S3} (bq:mg "isinstance"=none) (ur:mg "str"=none) (ie:mg "bool"=none) (iJ:mg "int"=none) (aY:mg "tuple"=none) (bM:mg "len"=none) (we:mg "zip"=none) {az:List D->R D} (bQ:Callee P w K mg base (0+n) "_law_alike" ["_law_found","_law_due"] az) (L__law_alike:Ar 2 az):cF P w K mg base (0+n) ["_law_found","_law_due","_law_one","_law_other"] "_law_alike" gC f (eK az) :=
 ⟨fun cdv A outer s H E hr hp=>(ak (cx (cD (gq zh rfl bq rfl ur SF (ae (xv 1)))) (ay (aL (pH (gq zh rfl bq rfl ur SF (ae (xv 0))) (sd (nW (e9 hr.units) av (ae (xv 0)) (ae (xv 1)) (cz _)))))) (aV)) (ak (cx (Fw (j4 (cD (gq jr rfl bq rfl ie SG (ae (xv 1)))) (iz (cD (gq jr rfl bq rfl ie SG (ae (xv 0))))))) (ay (aL (pH (gq jr rfl bq rfl ie SG (ae (xv 1))) (pH (gq jr rfl bq rfl ie SG (ae (xv 0))) (sd (nW (e9 hr.units) av (ae (xv 0)) (ae (xv 1)) (cz _))))))) (aV)) (ak (cx (cD (gq yi rfl bq rfl iJ SH (ae (xv 1)))) (ay (aL (pH (gq yi rfl bq rfl iJ SH (ae (xv 0))) (sd (nW (e9 hr.units) av (ae (xv 0)) (ae (xv 1)) (cz _)))))) (aV)) (ak (cx (Fw (j4 (gK (cD (gq zU rfl bq rfl aY SJ (ae (xv 0))))) (iz (bX (qS hr.units) av (bu ce rfl bM PySem.boot_len (aa (ae (xv 0)) (aj))) (bu ce rfl bM PySem.boot_len (aa (ae (xv 1)) (aj))) (cz _))))) (ay (aL (gw))) (aV)) (ak (eV hp rfl (Hc rfl we (aa (ae (xv 0)) (aa (ae (xv 1)) (aj)))) (nQ (g:=uB [2,3]) rfl (dI (bg (i:=2) uY.nd rfl ‹1›) (dI (bg (i:=3) uY.nd rfl ‹1›) (kN)))) (ak (cx (gK (cD (aw bQ L__law_alike hr ‹0› (aa (ae (xv 2)) (aa (ae (xv 3)) (aj)))))) (ay (aL (gw))) (aV)) (cN [2,3] aV))) (ay (aL (gw))))))))⟩
theorem mD {f__law_alike:S3} {fd__law_alike:TK} (F__law_alike:wF K "_law_alike" "_law_alike" gC f__law_alike fd__law_alike) (lQ:Binds K fd__law_alike ["_law_found","_law_due"] []) (m__law_alike:mg "_law_alike"=some (.ref f__law_alike)) (bq:mg "isinstance"=none) (ur:mg "str"=none) (ie:mg "bool"=none) (iJ:mg "int"=none) (aY:mg "tuple"=none) (bM:mg "len"=none) (we:mg "zip"=none):∀ n:Nat,Callee P w K mg base (0+n) "_law_alike" ["_law_found","_law_due"] (az n)
 | 0=>by
  rw [az];exact gg 0 F__law_alike lQ m__law_alike
 | n+1=>by
  have ih:=mD F__law_alike lQ m__law_alike bq ur ie iJ aY bM we n;rw [jL];exact bC F__law_alike lQ m__law_alike uY (cF.ok (vc bq ur ie iJ aY bM we ih (cm n)))
theorem yO {f:S3} :cF P w K mg base 0 ["self","form","table"] "Step.got" lD f cA :=
 ⟨fun cdv A outer s H E hr hp=>(ay (aL (ae (xv 2))))⟩
theorem yc {f:S3} (aY:mg "tuple"=none):cF P w K mg base 0 ["many","table","rows","row"] "unnested" lj f jy :=
 ⟨fun cdv A outer s H E hr hp=>(ak (fV (i:=2) yk.nd rfl ‹1› (lP (aj))) (ak (eV hp rfl (dN (ae (xv 1))) (bg (i:=3) yk.nd rfl ‹1›) (ak (Gq (xv 2) (Dw (N:=["within","row","many"]) (ix:=[none,some 3,some 0]) rfl (.of rfl) (eB rfl) (dN (aH (ae (xv 3)) (ae (xv 0)) (fun _ _=>rfl))) ⟨fun _ _ _ _ _ _=>⟨bg (i:=0) Mz rfl (Or.inl rfl),fu,ao bf av (cW (ae (xv 1)) (dS) (dQ (ae (xv 2)))) (ae (xv 0))⟩⟩)) (cN [3] aV))) (e6 2 (ay (aL (bP cU rfl aY SJ (aa (ae (xv 2)) (aj))))))))⟩
theorem uF {f:S3} (oM:Callee P w K mg base 1 "unnested" ["many","table"] (aG jy 2 4)) (bM:mg "len"=none):cF P w K mg base 1 ["self","form","table"] "Unnest.got" jk f bo :=
 ⟨fun cdv A outer s H E hr hp=>(ay (aL (aw oM aI hr ‹0› (aa (bu ce rfl bM PySem.boot_len (aa (aH (ae (xv 1)) (ai) (fun _ _=>rfl)) (aj))) (aa (ae (xv 2)) (aj))))))⟩
theorem o8 {f:S3} :cF P w K mg base 0 ["self","form"] "Step.view_form" fD f bA :=
 ⟨fun cdv A outer s H E hr hp=>(ay (aL (ae (xv 1))))⟩
theorem xY {f:S3} (aY:mg "tuple"=none):cF P w K mg base 0 ["form"] "names_of" lF f eF :=
 ⟨fun cdv A outer s H E hr hp=>(ay (aL (bP cU rfl aY SJ (aa (jX (N:=["field"]) (ix:=[none]) rfl (.of rfl) (eB rfl) (dN (ao bf av (aH (ae (xv 0)) (ai) (fun _ _=>rfl)) (aH (ae (xv 0)) (ai) (fun _ _=>rfl)))) ⟨fun _ _ _ _ _ _=>⟨bg (i:=0) MV rfl (Or.inl rfl),fu,aH (ae (xv 0)) (ai) (fun _ _=>rfl)⟩⟩) (aj)))))⟩
theorem zR {f:S3} :cF P w K mg base 0 ["form","place"] "kind_at" n8 f gh :=
 ⟨fun cdv A outer s H E hr hp=>(ay (aL (aH (aH (ao bf av (aH (ae (xv 0)) (ai) (fun _ _=>rfl)) (aH (ae (xv 0)) (ai) (fun _ _=>rfl))) (ae (xv 1)) (fun _ _=>rfl)) (ai) (fun _ _=>rfl))))⟩
theorem yh {f:S3} (gZ:Callee P w K mg base 1 "names_of" ["form"] (aG eF 1 1)) (mX:mg "enumerate"=none):cF P w K mg base 1 ["form","name","place","other"] "place_of" lV f fj :=
 ⟨fun cdv A outer s H E hr hp=>(ak (eV hp rfl (uZ rfl mX (aa (aw gZ aI hr ‹0› (aa (ae (xv 0)) (aj))) (aj))) (nQ (g:=uB [2,3]) rfl (dI (bg (i:=2) yN.nd rfl ‹1›) (dI (bg (i:=3) yN.nd rfl ‹1›) (kN)))) (ak (cx (bX (e9 hr.units) av (ae (xv 3)) (ae (xv 1)) (cz _)) (ay (aL (ae (xv 2)))) (aV)) (cN [2,3] aV))) (ay (pR)))⟩
theorem oz {f:S3} (ju:Callee P w K mg base 1 "kind_at" ["form","place"] (aG gh 2 2)) (ik:Callee P w K mg base 2 "place_of" ["form","name"] (aG fj 2 4)) (gZ:Callee P w K mg base 1 "names_of" ["form"] (aG eF 1 1)) (bL:sQ K "name" ["Unnest"]) (bM:mg "len"=none) (Ed:mg "any"=none) (c_MOST_FIELDS:∃ t,mg "MOST_FIELDS"=some (.int 8 t)):cF P w K mg base 2 ["self","form","kind","key","inner"] "Unnest.view_form" eI f aR :=
 ⟨fun cdv A outer s H E hr hp=>(ak (aK (i:=2) iY.nd rfl ‹1› (aw ju aI hr ‹0› (aa (ae (xv 1)) (aa (aw ik aI hr ‹0› (aa (ae (xv 1)) (aa (sf bL (ae (xv 0))) (aj)))) (aj))))) (ak (cx (Fw (j4 (bX (qS hr.units) av (aH (ae (xv 2)) (ai) (fun _ _=>rfl)) (eE) (cz _)) (iz (bX (qS hr.units) av (bu ce rfl bM PySem.boot_len (aa (aH (ae (xv 1)) (ai) (fun _ _=>rfl)) (aj))) (ai) (cz _))))) (ay (pR)) (aV)) (ak (aK (i:=3) iY.nd rfl ‹1› (aH (ae (xv 1)) (ai) (fun _ _=>rfl))) (ak (aK (i:=4) iY.nd rfl ‹1› (aH (ae (xv 2)) (ai) (fun _ _=>rfl))) (ak (cx (cD (bu (Cb rfl) rfl Ed PyProof.Rows.boot_any (aa (jX (N:=["field","inner"]) (ix:=[none,some 4]) rfl (.of rfl) (eB rfl) (dN (ae (xv 3))) ⟨fun _ _ _ _ _ _=>⟨bg (i:=0) Mv rfl (Or.inl rfl),fu,nW (Id hr.units) av (aH (ae (xv 0)) (ai) (fun _ _=>rfl)) (aw gZ aI hr ‹0› (aa (ae (xv 1)) (aj))) rfl⟩⟩) (aj)))) (ay (pR)) (aV)) (ak (cx (bX Hw vK (ao bf av (bu ce rfl bM PySem.boot_len (aa (ae (xv 3)) (aj))) (bu ce rfl bM PySem.boot_len (aa (aH (ae (xv 4)) (ai) (fun _ _=>rfl)) (aj)))) (Fq rfl c_MOST_FIELDS) (cz _)) (ay (pR)) (aV)) (ay (aL (bx (aa (ao bf av (ae (xv 3)) (aH (ae (xv 4)) (ai) (fun _ _=>rfl))) (aa (aH (ae (xv 4)) (ai) (fun _ _=>rfl)) (aj))))))))))))⟩
theorem yy {f:S3} :cF P w K mg base 0 ["self","form","table","view"] "Step.put" lU f g9 :=
 ⟨fun cdv A outer s H E hr hp=>(ay (aL (ae (xv 3))))⟩
theorem wU {f cL T:S3} (aY:mg "tuple"=none) (eM:mg "sorted"=none) (lamB:Cw mg base cL T) (lamC:vP K f (.ref cL)) (lamT:∀ H,aX.tab H->H T=some (.ext (pK T ⟨23,34,23,56⟩ ((("sorted_by":Str) ++ ".<locals>.") ++ "<lambda>")))):Fa P w K mg base 0 ["many","rows"] "sorted_by" jN f iE :=
 ⟨fun cdv A outer s H E hc hr hp=>by
  obtain rfl:=hc.one lamC;exact(ay (aL (bP cU rfl aY SJ (aa (CZ (j:=0) hr rfl eM lamB rfl lamT (ae (xv 1)) rfl rfl (Or.inr (Or.inl rfl)) rfl rfl rfl (fun _ _ _=>rfl) rfl rfl rfl (by decide) rfl rfl rfl rfl rfl) (aj)))))⟩
theorem Df {f:S3} (qu:mg "dict"=none):cF P w K mg base 0 ["many","rows"] "by_key" pP f mP :=
 ⟨fun cdv A outer s H E hr hp=>(ay (aL (bP (zF rfl hr.units) rfl qu SK (aa (jX (N:=["row","many"]) (ix:=[none,some 0]) rfl (.of rfl) (eB rfl) (dN (ae (xv 1))) ⟨fun _ _ _ _ _ _=>⟨bg (i:=0) Nr rfl (Or.inl rfl),fu,bx (aa (cW (ae (xv 0)) (dS) (dQ (ae (xv 1)))) (aa (ae (xv 0)) (aj)))⟩⟩) (aj)))))⟩
theorem yg {f:S3} (uy:Callee P w K mg base 1 "by_key" ["many","rows"] (aG mP 2 2)) (my:Callee P w K mg base 1 "sorted_by" ["many","rows"] (aG iE 2 2)) (fZ:mg "list"=none):cF P w K mg base 1 ["many","rows","others","taken"] "standing" ly f jA :=
 ⟨fun cdv A outer s H E hr hp=>(ak (aK (i:=3) yH.nd rfl ‹1› (aw uy aI hr ‹0› (aa (ae (xv 0)) (aa (ae (xv 1)) (aj))))) (ay (aL (aw my aI hr ‹0› (aa (ae (xv 0)) (aa (ao bf av (bP Ax rfl fZ SL (aa (ae (xv 1)) (aj))) (jX (N:=["row","many","taken"]) (ix:=[none,some 0,some 3]) rfl (.of rfl) (eB rfl) (dN (ae (xv 2))) ⟨fun _ _ _ _ _ _=>⟨bg (i:=0) Mu rfl (Or.inl rfl),su (bX (BZ hr.units) av (cW (ae (xv 0)) (dS) (dQ (ae (xv 1)))) (ae (xv 2)) rfl),ae (xv 0)⟩⟩)) (aj)))))))⟩
theorem Ad {f:S3} (qu:mg "dict"=none) (aY:mg "tuple"=none):cF P w K mg base 0 ["many","rows","groups","row"] "grouped" nu f jn :=
 ⟨fun cdv A outer s H E hr hp=>(ak (EA (i:=2) Ah.nd rfl ‹1›) (ak (eV hp rfl (dN (ae (xv 1))) (bg (i:=3) Ah.nd rfl ‹1›) (ak (Gj hr.units (xv 2) (cW (ae (xv 3)) (dS) (dQ (ae (xv 0)))) (cW (ae (xv 3)) (dQ (ae (xv 0))) (dS))) (cN [3] aV))) (CJ 2 (ay (aL (bP (Ay rfl hr.units) rfl qu SK (aa (jX (N:=["key","within"]) (ix:=[none,none]) rfl (.of rfl) (oW rfl) (pW (ae (xv 2))) ⟨fun _ _ _ _ _ _=>⟨nQ (g:=uB [0,1]) rfl (dI (bg (i:=0) K3 rfl (Or.inl rfl)) (dI (bg (i:=1) K3 rfl (Or.inl rfl)) (kN))),fu,bx (aa (ae (xv 0)) (aa (bP cU rfl aY SJ (aa (ae (xv 1)) (aj))) (aj)))⟩⟩) (aj))))))))⟩
theorem uH {f:S3} (nO:Callee P w K mg base 1 "grouped" ["many","rows"] (aG jn 2 4)) (oY:Callee P w K mg base 2 "standing" ["many","rows","others"] (aG jA 3 4)) (bM:mg "len"=none):cF P w K mg base 2 ["self","form","table","view","many","rows"] "Unnest.put" ji f de :=
 ⟨fun cdv A outer s H E hr hp=>(ak (aK (i:=4) uW.nd rfl ‹1› (bu ce rfl bM PySem.boot_len (aa (aH (ae (xv 1)) (ai) (fun _ _=>rfl)) (aj)))) (ak (by first | exact Ij (i:=5) uW.nd rfl ‹1› (N:=["key","within"]) (ix:=[none,none]) rfl (.of rfl) (oW rfl) (pW (aw nO aI hr ‹0› (aa (ae (xv 4)) (aa (ae (xv 3)) (aj))))) ⟨fun _ _ _ _ _ _=>⟨nQ (g:=uB [0,1]) rfl (dI (bg (i:=0) Gw rfl (Or.inl rfl)) (dI (bg (i:=1) Gw rfl (Or.inl rfl)) (kN))),fu,ao bf av (ae (xv 0)) (bx (aa (ae (xv 1)) (aj)))⟩⟩ | exact aK (i:=5) uW.nd rfl ‹1› (jX (N:=["key","within"]) (ix:=[none,none]) rfl (.of rfl) (oW rfl) (pW (aw nO aI hr ‹0› (aa (ae (xv 4)) (aa (ae (xv 3)) (aj))))) ⟨fun _ _ _ _ _ _=>⟨nQ (g:=uB [0,1]) rfl (dI (bg (i:=0) Gw rfl (Or.inl rfl)) (dI (bg (i:=1) Gw rfl (Or.inl rfl)) (kN))),fu,ao bf av (ae (xv 0)) (bx (aa (ae (xv 1)) (aj)))⟩⟩)) (ay (aL (aw oY aI hr ‹0› (aa (ae (xv 4)) (aa (ae (xv 5)) (aa (jX (N:=["row","many"]) (ix:=[none,some 4]) rfl (.of rfl) (eB rfl) (dN (ae (xv 2))) ⟨fun _ _ _ _ _ _=>⟨bg (i:=0) NW rfl (Or.inl rfl),su (bX (e9 hr.units) av (aH (ae (xv 0)) (ae (xv 1)) (fun _ _=>rfl)) (bx (aj)) (cz _)),ae (xv 0)⟩⟩) (aj)))))))))⟩
theorem uX {f:S3} :cF P w K mg base 0 ["self","form"] "Step.exact" jg f cp :=
 ⟨fun cdv A outer s H E hr hp=>(ay (aL (gw)))⟩
theorem rF {f:S3} (ju:Callee P w K mg base 1 "kind_at" ["form","place"] (aG gh 2 2)) (ik:Callee P w K mg base 2 "place_of" ["form","name"] (aG fj 2 4)) (bL:sQ K "name" ["Unnest"]):cF P w K mg base 2 ["self","form"] "Unnest.exact" gI f aN :=
 ⟨fun cdv A outer s H E hr hp=>(ay (aL (aH (aw ju aI hr ‹0› (aa (ae (xv 1)) (aa (aw ik aI hr ‹0› (aa (ae (xv 1)) (aa (sf bL (ae (xv 0))) (aj)))) (aj)))) (ai) (fun _ _=>rfl))))⟩
theorem tP {f:S3} (eM:mg "sorted"=none) (fZ:mg "list"=none) (aY:mg "tuple"=none):cF P w K mg base 0 ["_law_table_here","_law_many","_law_firsts","_law_row_here","_law_found","_law_first"] "_law_nested" iu f du :=
 ⟨fun cdv A outer s H E hr hp=>(ak (fV (i:=2) tM.nd rfl ‹1› (qE)) (ak (eV hp rfl (dN (ae (xv 0))) (bg (i:=3) tM.nd rfl ‹1›) (ay (yJ (hr.units) (xv 2) (cW (ae (xv 3)) (dS) (dQ (ae (xv 1)))) (gw)))) (ak (fV (i:=4) tM.nd rfl ‹1› (lP (aj))) (e6 2 (ak (eV hp rfl (dN (bu lA rfl eM jf (aa (bP (tV rfl) rfl fZ SL (aa (ae (xv 2)) (aj))) (aj)))) (bg (i:=5) tM.nd rfl ‹1›) (ak (lE SV SW d5 fE (xv 4) (aa (ao bf av (ae (xv 5)) (bx (aa (bP cU rfl aY SJ (aa (jX (N:=["_law_row_here","_law_many","_law_first"]) (ix:=[none,some 1,some 5]) rfl (.of rfl) (eB rfl) (dN (ae (xv 0))) ⟨fun _ _ _ _ _ _=>⟨bg (i:=0) Nk rfl (Or.inl rfl),su (bX (e9 hr.units) av (cW (ae (xv 0)) (dS) (dQ (ae (xv 1)))) (ae (xv 2)) (cz _)),cW (ae (xv 0)) (dQ (ae (xv 1))) (dS)⟩⟩) (aj))) (aj)))) (aj))) (cN [5] aV))) (e6 4 (ay (aL (bP cU rfl aY SJ (aa (ae (xv 4)) (aj)))))))))))⟩
theorem xn {f:S3} :cF P w K mg base 0 ["_law_x"] "_law_next" jU f aM :=
 ⟨fun cdv A outer s H E hr hp=>(ay (aL (ao bJ bI (ao bf av (ao bf av (ao iQ iS (ae (xv 0)) (ae (xv 0))) (ao iQ iS (ai) (ae (xv 0)))) (ai)) (ai))))⟩
theorem sL {f:S3} (aY:mg "tuple"=none) (eM:mg "sorted"=none) (fZ:mg "list"=none):cF P w K mg base 0 ["_law_many","_law_rows_here","_law_found","_law_row_here"] "_law_sorted" iq f bi :=
 ⟨fun cdv A outer s H E hr hp=>(ak (fV (i:=2) tD.nd rfl ‹1› (qE)) (ak (eV hp rfl (dN (ae (xv 1))) (bg (i:=3) tD.nd rfl ‹1›) (ak (yJ (hr.units) (xv 2) (cW (ae (xv 3)) (dS) (dQ (ae (xv 0)))) (ae (xv 3))) (cN [3] aV))) (e6 2 (ay (aL (bP cU rfl aY SJ (aa (jX (N:=["_law_key","_law_found"]) (ix:=[none,some 2]) rfl (.of rfl) (eB rfl) (dN (bu lA rfl eM jf (aa (bP (tV rfl) rfl fZ SL (aa (ae (xv 2)) (aj))) (aj)))) ⟨fun _ _ _ _ _ _=>⟨bg (i:=0) Ng rfl (Or.inl rfl),fu,He hr.units (ae (xv 1)) (ae (xv 0)) (fun _ _=>rfl)⟩⟩) (aj))))))))⟩
theorem uE {n:Nat} {f:S3} (aC:Callee P w K mg base 1 "_law_next" ["_law_x"] (aG aM 1 1)) (bw:Callee P w K mg base 1 "_law_sorted" ["_law_many","_law_rows_here"] (aG bi 2 4)) (bM:mg "len"=none) (kO:mg "max"=none) (iJ:mg "int"=none) (aY:mg "tuple"=none) (bN:mg "range"=none) {aA:List D->R D} (gF:Callee P w K mg base (1+n) "_law_value" ["_law_kind_here","_law_x"] aA) (L__law_value:Ar 2 aA) {aF:List D->R D} (dX:Callee P w K mg base (1+n) "_law_row" ["_law_form_here","_law_many","_law_head","_law_tail"] aF) (L__law_row:Ar 4 aF) {aD:List D->R D} (fg:Callee P w K mg base (1+n) "_law_rows" ["_law_form_here","_law_x","_law_many"] aD) (L__law_rows:Ar 3 aD):cF P w K mg base (1+n) ["_law_kind_here","_law_x"] "_law_value" gA f (gx aA aF aD) :=
 ⟨fun cdv A outer s H E hr hp=>(ak (cx (bX (e9 hr.units) av (aH (ae (xv 0)) (ai) (fun _ _=>rfl)) (eE) (cz _)) (ay (aL (ao bf av (aH (ae (xv 0)) (ai) (fun _ _=>rfl)) (ao bJ bI (ao qo qw (ae (xv 1)) (ai)) (ao bf av (ao sB ug (aH (ae (xv 0)) (ai) (fun _ _=>rfl)) (aH (ae (xv 0)) (ai) (fun _ _=>rfl))) (ai)))))) (aV)) (ak (cx (bX (e9 hr.units) av (aH (ae (xv 0)) (ai) (fun _ _=>rfl)) (eE) (cz _)) (ay (aL (aH (aH (ae (xv 0)) (ai) (fun _ _=>rfl)) (ao bJ bI (ae (xv 1)) (bu ce rfl bM PySem.boot_len (aa (aH (ae (xv 0)) (ai) (fun _ _=>rfl)) (aj)))) (fun _ _=>rfl)))) (aV)) (ay (aL (aw fg L__law_rows hr ‹0› (aa (aH (ae (xv 0)) (ai) (fun _ _=>rfl)) (aa (ao bD cH (ae (xv 1)) (ai)) (aa (bu (tS rfl) rfl kO SM (aa (ao bJ bI (ae (xv 1)) (ai)) (aa (bP Aj rfl iJ SH (aa (aH (ae (xv 0)) (ai) (fun _ _=>rfl)) (aj))) (aj)))) (aj)))))))))⟩
theorem yQ {n:Nat} {f:S3} (aC:Callee P w K mg base 1 "_law_next" ["_law_x"] (aG aM 1 1)) (bw:Callee P w K mg base 1 "_law_sorted" ["_law_many","_law_rows_here"] (aG bi 2 4)) (bM:mg "len"=none) (kO:mg "max"=none) (iJ:mg "int"=none) (aY:mg "tuple"=none) (bN:mg "range"=none) {aA:List D->R D} (gF:Callee P w K mg base (1+n) "_law_value" ["_law_kind_here","_law_x"] aA) (L__law_value:Ar 2 aA) {aF:List D->R D} (dX:Callee P w K mg base (1+n) "_law_row" ["_law_form_here","_law_many","_law_head","_law_tail"] aF) (L__law_row:Ar 4 aF) {aD:List D->R D} (fg:Callee P w K mg base (1+n) "_law_rows" ["_law_form_here","_law_x","_law_many"] aD) (L__law_rows:Ar 3 aD):cF P w K mg base (1+n) ["_law_form_here","_law_many","_law_head","_law_tail","_law_row_here","_law_name_here","_law_kind_here"] "_law_row" jD f (lI aA aF aD) :=
 ⟨fun cdv A outer s H E hr hp=>(ak (fV (i:=4) yE.nd rfl ‹1› (lP (aj))) (ak (eV hp rfl (dN (ao bf av (aH (ae (xv 0)) (ai) (fun _ _=>rfl)) (aH (ae (xv 0)) (ai) (fun _ _=>rfl)))) (nQ (g:=uB [5,6]) rfl (dI (bg (i:=5) yE.nd rfl ‹1›) (dI (bg (i:=6) yE.nd rfl ‹1›) (kN)))) (ak (cx (sN [4] (bX (sS hr.units) av (bu ce rfl bM PySem.boot_len (aa (ae (xv 4)) (aj))) (ae (xv 1)) (cz _))) (ak (aK (i:=2) yE.nd rfl ‹1› (aw aC aI hr ‹0› (aa (ae (xv 2)) (aj)))) (ay (lE SV SW d5 fE (xv 4) (aa (aw gF L__law_value hr ‹0› (aa (ae (xv 6)) (aa (ae (xv 2)) (aj)))) (aj))))) (ak (aK (i:=3) yE.nd rfl ‹1› (aw aC aI hr ‹0› (aa (ae (xv 3)) (aj)))) (ay (lE SV SW d5 fE (xv 4) (aa (aw gF L__law_value hr ‹0› (aa (ae (xv 6)) (aa (ae (xv 3)) (aj)))) (aj)))))) (cN [5,6] aV))) (e6 4 (ay (aL (bP cU rfl aY SJ (aa (ae (xv 4)) (aj))))))))⟩
theorem wQ {n:Nat} {f:S3} (aC:Callee P w K mg base 1 "_law_next" ["_law_x"] (aG aM 1 1)) (bw:Callee P w K mg base 1 "_law_sorted" ["_law_many","_law_rows_here"] (aG bi 2 4)) (bM:mg "len"=none) (kO:mg "max"=none) (iJ:mg "int"=none) (aY:mg "tuple"=none) (bN:mg "range"=none) {aA:List D->R D} (gF:Callee P w K mg base (1+n) "_law_value" ["_law_kind_here","_law_x"] aA) (L__law_value:Ar 2 aA) {aF:List D->R D} (dX:Callee P w K mg base (1+n) "_law_row" ["_law_form_here","_law_many","_law_head","_law_tail"] aF) (L__law_row:Ar 4 aF) {aD:List D->R D} (fg:Callee P w K mg base (1+n) "_law_rows" ["_law_form_here","_law_x","_law_many"] aD) (L__law_rows:Ar 3 aD):cF P w K mg base (1+n) ["_law_form_here","_law_x","_law_many","_law_rows_here","_law_k"] "_law_rows" iL f (jO aA aF aD) :=
 ⟨fun cdv A outer s H E hr hp=>(ak (fV (i:=3) wB.nd rfl ‹1› (lP (aj))) (ak (eV hp rfl (jE rfl bN (aa (ae (xv 2)) (aj))) (bg (i:=4) wB.nd rfl ‹1›) (ak (aK (i:=1) wB.nd rfl ‹1› (aw aC aI hr ‹0› (aa (ae (xv 1)) (aj)))) (ak (lE SV SW d5 fE (xv 3) (aa (aw dX L__law_row hr ‹0› (aa (ae (xv 0)) (aa (ai) (aa (ai) (aa (ae (xv 1)) (aj)))))) (aj))) (cN [4] aV)))) (e6 3 (ay (aL (aw bw aI hr ‹0› (aa (bu ce rfl bM PySem.boot_len (aa (aH (ae (xv 0)) (ai) (fun _ _=>rfl)) (aj))) (aa (ae (xv 3)) (aj)))))))))⟩
theorem mz {f__law_value:S3} {fd__law_value:TK} (F__law_value:wF K "_law_value" "_law_value" gA f__law_value fd__law_value) (lL:Binds K fd__law_value ["_law_kind_here","_law_x"] []) (m__law_value:mg "_law_value"=some (.ref f__law_value)) {f__law_row:S3} {fd__law_row:TK} (F__law_row:wF K "_law_row" "_law_row" jD f__law_row fd__law_row) (oV:Binds K fd__law_row ["_law_form_here","_law_many","_law_head","_law_tail"] []) (m__law_row:mg "_law_row"=some (.ref f__law_row)) {f__law_rows:S3} {fd__law_rows:TK} (F__law_rows:wF K "_law_rows" "_law_rows" iL f__law_rows fd__law_rows) (mV:Binds K fd__law_rows ["_law_form_here","_law_x","_law_many"] []) (m__law_rows:mg "_law_rows"=some (.ref f__law_rows)) (aC:Callee P w K mg base 1 "_law_next" ["_law_x"] (aG aM 1 1)) (bw:Callee P w K mg base 1 "_law_sorted" ["_law_many","_law_rows_here"] (aG bi 2 4)) (bM:mg "len"=none) (kO:mg "max"=none) (iJ:mg "int"=none) (aY:mg "tuple"=none) (bN:mg "range"=none):∀ n:Nat,Callee P w K mg base (1+n) "_law_value" ["_law_kind_here","_law_x"] (aA n)/\Callee P w K mg base (1+n) "_law_row" ["_law_form_here","_law_many","_law_head","_law_tail"] (aF n)/\Callee P w K mg base (1+n) "_law_rows" ["_law_form_here","_law_x","_law_many"] (aD n)
 | 0=>by
  rw [aA]; rw [aF]; rw [aD];exact⟨gg 1 F__law_value lL m__law_value,gg 1 F__law_row oV m__law_row,gg 1 F__law_rows mV m__law_rows⟩
 | n+1=>by
  have ih:=mz F__law_value lL m__law_value F__law_row oV m__law_row F__law_rows mV m__law_rows aC bw bM kO iJ aY bN n;rw [eX]; rw [iN]; rw [hJ];exact⟨bC F__law_value lL m__law_value uJ (cF.ok (uE aC bw bM kO iJ aY bN ih.1 (iW n) ih.2.1 (fP n) ih.2.2 (gG n))),bC F__law_row oV m__law_row yE (cF.ok (yQ aC bw bM kO iJ aY bN ih.1 (iW n) ih.2.1 (fP n) ih.2.2 (gG n))),bC F__law_rows mV m__law_rows wB (cF.ok (wQ aC bw bM kO iJ aY bN ih.1 (iW n) ih.2.1 (fP n) ih.2.2 (gG n)))⟩
theorem pQ {f:S3} :cF P w K mg base 0 ["_law_form_here","_law_inner"] "_law_flat_form" fJ f cu :=
 ⟨fun cdv A outer s H E hr hp=>(ak (aK (i:=1) pD.nd rfl ‹1› (aH (aH (aH (aH (ae (xv 0)) (ai) (fun _ _=>rfl)) (ai) (fun _ _=>rfl)) (ai) (fun _ _=>rfl)) (ai) (fun _ _=>rfl))) (ay (aL (bx (aa (ao bf av (aH (ae (xv 0)) (ai) (fun _ _=>rfl)) (aH (ae (xv 1)) (ai) (fun _ _=>rfl))) (aa (aH (ae (xv 1)) (ai) (fun _ _=>rfl)) (aj)))))))⟩
theorem u9 {f:S3} (dC:Callee P w K mg base 1 "_law_flat_form" ["_law_form_here"] (aG cu 1 2)) (fg:Callee P w K mg base 21 "_law_rows" ["_law_form_here","_law_x","_law_many"] (aD 20)) (eO:Callee P w K mg base 1 "_law_nested" ["_law_table_here","_law_many"] (aG du 2 6)) (bQ:Callee P w K mg base 20 "_law_alike" ["_law_found","_law_due"] (az 20)) (cP:dY P w K mg base 21 "view_form" ["self","form"] [("Step",(aG bA 2 2)),("Unnest",(aG aR 2 5))]) (dL:dY P w K mg base 21 "exact" ["self","form"] [("Step",(aG cp 2 2)),("Unnest",(aG aN 2 2))]) (dF:dY P w K mg base 21 "got" ["self","form","table"] [("Step",(aG cA 3 3)),("Unnest",(aG bo 3 3))]) (oN:dY P w K mg base 21 "put" ["self","form","table","view"] [("Step",(aG g9 4 4)),("Unnest",(aG de 4 6))]) (bL:sQ K "name" ["Unnest"]) (bM:mg "len"=none):cF P w K mg base 21 ["_law_step","_law_form_here","_law_extra","_law_x","_law_kind_here","_law_key","_law_other","_law_flat","_law_rows_here","_law_table_here"] "_law_again" jb f fH :=
 ⟨fun cdv A outer s H E hr hp=>(ak (aK (i:=4) uO.nd rfl ‹1› (aH (aH (aH (ae (xv 1)) (ai) (fun _ _=>rfl)) (ai) (fun _ _=>rfl)) (ai) (fun _ _=>rfl))) (ak (aK (i:=5) uO.nd rfl ‹1› (ao bf av (aH (ae (xv 1)) (ai) (fun _ _=>rfl)) (bx (aa (bx (aa (ae (xv 2)) (aa (bx (aa (eE) (aa (ai) (aa (ai) (aj))))) (aj)))) (aj))))) (ak (cx (bX Hw vK (ao bf av (bu ce rfl bM PySem.boot_len (aa (aH (ae (xv 1)) (ai) (fun _ _=>rfl)) (aj))) (bu ce rfl bM PySem.boot_len (aa (aH (aH (ae (xv 4)) (ai) (fun _ _=>rfl)) (ai) (fun _ _=>rfl)) (aj)))) (ai) (cz _)) (ay (aK (i:=5) uO.nd rfl ‹1› (cW (aH (ae (xv 1)) (ai) (fun _ _=>rfl)) (dS) (dQ (ai))))) (aV)) (ak (aK (i:=6) uO.nd rfl ‹1› (bx (aa (ae (xv 5)) (aa (bx (aa (bx (aa (sf bL (ae (xv 0))) (aa (bx (aa (eE) (aa (bx (aa (cW (aH (aH (ae (xv 4)) (ai) (fun _ _=>rfl)) (ai) (fun _ _=>rfl)) (dS) (dQ (ai))) (aa (cW (aH (aH (ae (xv 4)) (ai) (fun _ _=>rfl)) (ai) (fun _ _=>rfl)) (dQ (ai)) (dS)) (aj)))) (aa (Hh (aH (ae (xv 4)) (ai) (fun _ _=>rfl))) (aj))))) (aj)))) (aj))) (aj))))) (ak (aK (i:=7) uO.nd rfl ‹1› (aw dC aI hr ‹0› (aa (ae (xv 6)) (aj)))) (ak (aK (i:=8) uO.nd rfl ‹1› (aw fg (gG 20) hr ‹0› (aa (ae (xv 7)) (aa (ae (xv 3)) (aa (ai) (aj)))))) (ak (aK (i:=9) uO.nd rfl ‹1› (aw eO aI hr ‹0› (aa (ae (xv 8)) (aa (bu ce rfl bM PySem.boot_len (aa (ae (xv 5)) (aj))) (aj))))) (ak (cx (Fw (j4 (gK (cD (aw bQ (cm 20) hr ‹0› (aa (dP cP hr ‹0› (ae (xv 0)) (aa (ae (xv 6)) (aj))) (aa (ae (xv 7)) (aj)))))) (iz (bX (e9 hr.units) av (dP dL hr ‹0› (ae (xv 0)) (aa (ae (xv 6)) (aj))) (aH (ae (xv 4)) (ai) (fun _ _=>rfl)) (cz _))))) (ay (aL (gw))) (aV)) (ay (aL (pH (aw bQ (cm 20) hr ‹0› (aa (dP dF hr ‹0› (ae (xv 0)) (aa (ae (xv 6)) (aa (ae (xv 9)) (aj)))) (aa (ae (xv 8)) (aj)))) (sd (aw bQ (cm 20) hr ‹0› (aa (dP oN hr ‹0› (ae (xv 0)) (aa (ae (xv 6)) (aa (bx (aj)) (aa (ae (xv 8)) (aj))))) (aa (ae (xv 9)) (aj))))))))))))))))⟩
theorem xI {f:S3} (bN:mg "range"=none):cF P w K mg base 0 ["_law_base","_law_k","_law_letters","_law_size","_law_name_here","_law_j","_law_step"] "_law_name" jP f bT :=
 ⟨fun cdv A outer s H E hr hp=>(ak (aK (i:=2) xo.nd rfl ‹1› (eE)) (ak (aK (i:=1) xo.nd rfl ‹1› (ao bJ bI (ao bf av (ao iQ iS (ae (xv 1)) (aH (lK (aa (ai) (aa (ai) (aa (ai) (aa (ai) (aa (ai) (aa (ai) (aj)))))))) (ao bJ bI (ae (xv 0)) (ai)) (fun _ _=>rfl))) (ao bD cH (ae (xv 0)) (ai))) (ai))) (ak (aK (i:=0) xo.nd rfl ‹1› (ao bD cH (ae (xv 0)) (ai))) (ak (cx (bX (e9 hr.units) av (ao bJ bI (ae (xv 0)) (ai)) (ai) (cz _)) (ay (aL (ao wK av (aH (ae (xv 2)) (ao bJ bI (ao bf av (ao bD cH (ae (xv 0)) (ai)) (ao bD cH (ae (xv 1)) (ai))) (ai)) (fun _ _=>rfl)) (ao bf av (ai) (ao bJ bI (ae (xv 1)) (ai)))))) (aV)) (ak (aK (i:=3) xo.nd rfl ‹1› (ao bf av (ai) (ao bJ bI (ao bD cH (ae (xv 0)) (ai)) (ai)))) (ak (aK (i:=4) xo.nd rfl ‹1› (eE)) (ak (eV hp rfl (jE rfl bN (aa (ae (xv 3)) (aj))) (bg (i:=5) xo.nd rfl ‹1›) (ak (aK (i:=6) xo.nd rfl ‹1› (ao bD cH (ae (xv 0)) (ao bf av (ai) (ao iQ iS (ao iQ iS (ai) (ae (xv 5))) (ae (xv 5)))))) (ak (cx (bX (e9 hr.units) av (ae (xv 5)) (ao bJ bI (ao bD cH (ae (xv 0)) (ai)) (ae (xv 3))) (cz _)) (ay (aK (i:=6) xo.nd rfl ‹1› (ao bf av (ae (xv 6)) (ae (xv 1))))) (aV)) (ak (aK (i:=4) xo.nd rfl ‹1› (ao bf av (ae (xv 4)) (aH (ae (xv 2)) (ao bJ bI (ae (xv 6)) (ai)) (fun _ _=>rfl)))) (cN [5,6] aV))))) (ay (aL (ae (xv 4)))))))))))⟩
theorem rJ {f:S3} (bM:mg "len"=none):cF P w K mg base 0 ["_law_script","_law_k"] "_law_cell_at" gD f bS :=
 ⟨fun cdv A outer s H E hr hp=>(ak (cx (bX (sS hr.units) av (ae (xv 1)) (bu ce rfl bM PySem.boot_len (aa (ae (xv 0)) (aj))) (cz _)) (ay (aL (aH (ae (xv 0)) (ae (xv 1)) (fun _ _=>rfl)))) (aV)) (ay (aL (ai))))⟩
theorem uc {f:S3} :cF P w K mg base 0 ["self","form"] "Step.steady" iA f dA :=
 ⟨fun cdv A outer s H E hr hp=>(ay (aL (gw)))⟩
theorem qH {f:S3} (rA:dY P w K mg base 3 "exact" ["self","form"] [("Unnest",(aG aN 2 2))]):cF P w K mg base 3 ["self","form"] "Unnest.steady" fX f bV :=
 ⟨fun cdv A outer s H E hr hp=>(ay (aL (dP rA hr ‹0› (ae (xv 0)) (aa (ae (xv 1)) (aj)))))⟩
theorem uN {f:S3} :cF P w K mg base 0 ["self"] "Step.words" i6 f fG :=
 ⟨fun cdv A outer s H E hr hp=>(ay (aL (bx (aj))))⟩
theorem rE {f:S3} (bL:sQ K "name" ["Unnest"]):cF P w K mg base 0 ["self"] "Unnest.words" gz f cV :=
 ⟨fun cdv A outer s H E hr hp=>(ay (aL (bx (aa (eE) (aa (sf bL (ae (xv 0))) (aj))))))⟩
theorem oJ {f:S3} (dX:Callee P w K mg base 21 "_law_row" ["_law_form_here","_law_many","_law_head","_law_tail"] (aF 20)) (bw:Callee P w K mg base 1 "_law_sorted" ["_law_many","_law_rows_here"] (aG bi 2 4)) (fZ:mg "list"=none) (bM:mg "len"=none):cF P w K mg base 21 ["_law_form_here","_law_nested_here","_law_xs","_law_rows_here","_law_keys","_law_x","_law_key"] "_law_with_empty" eW f dR :=
 ⟨fun cdv A outer s H E hr hp=>(ak (fV (i:=3) oO.nd rfl ‹1› (DN rfl fZ SL (aa (ae (xv 1)) (aj)))) (ak (by first | exact CG (i:=4) oO.nd rfl ‹1› (N:=["_law_row_here"]) (ix:=[none]) rfl (.of rfl) (eB rfl) (dN (ae (xv 1))) ⟨fun _ _ _ _ _ _=>⟨bg (i:=0) Hv rfl (Or.inl rfl),fu,cW (ae (xv 0)) (dS) (dQ (wY (ai)))⟩⟩ | exact fV (i:=4) oO.nd rfl ‹1› (Dw (N:=["_law_row_here"]) (ix:=[none]) rfl (.of rfl) (eB rfl) (dN (ae (xv 1))) ⟨fun _ _ _ _ _ _=>⟨bg (i:=0) Hv rfl (Or.inl rfl),fu,cW (ae (xv 0)) (dS) (dQ (wY (ai)))⟩⟩)) (cN [1] (ak (eV hp rfl (dN (ae (xv 2))) (bg (i:=5) oO.nd rfl ‹1›) (ak (aK (i:=6) oO.nd rfl ‹1› (aw dX (fP 20) hr ‹0› (aa (bx (aa (aH (ae (xv 0)) (ai) (fun _ _=>rfl)) (aa (bx (aj)) (aj)))) (aa (ai) (aa (ai) (aa (ae (xv 5)) (aj))))))) (ak (cx (sN [4] (bX (Cr hr.units) av (ae (xv 6)) (ae (xv 4)) rfl)) (ak (lE SV SW d5 fE (xv 4) (aa (ae (xv 6)) (aj))) (ay (lE SV SW d5 fE (xv 3) (aa (ao bf av (ae (xv 6)) (bx (aa (bx (aj)) (aj)))) (aj))))) (aV)) (cN [5,6] aV)))) (e6 3 (ay (aL (aw bw aI hr ‹0› (aa (bu ce rfl bM PySem.boot_len (aa (aH (ae (xv 0)) (ai) (fun _ _=>rfl)) (aj))) (aa (ae (xv 3)) (aj)))))))))))⟩
theorem xq {f:S3} (cC:Callee P w K mg base 1 "_law_cell_at" ["_law_script","_law_k"] (aG bS 2 2)) (aC:Callee P w K mg base 1 "_law_next" ["_law_x"] (aG aM 1 1)):cF P w K mg base 1 ["_law_script","_law_k","_law_x"] "_law_seed" jS f cT :=
 ⟨fun cdv A outer s H E hr hp=>(ak (aK (i:=2) wW.nd rfl ‹1› (ao bJ bI (ao bf av (ao bf av (ao bJ bI (aw cC aI hr ‹0› (aa (ae (xv 0)) (aa (ae (xv 1)) (aj)))) (ai)) (ao iQ iS (ao iQ iS (ai) (ae (xv 1))) (ae (xv 1)))) (ai)) (ai))) (ay (aL (aw aC aI hr ‹0› (aa (aw aC aI hr ‹0› (aa (ae (xv 2)) (aj))) (aj))))))⟩
theorem uL {f:S3} (dJ:Callee P w K mg base 2 "_law_seed" ["_law_script","_law_k"] (aG cT 2 3)) (dX:Callee P w K mg base 21 "_law_row" ["_law_form_here","_law_many","_law_head","_law_tail"] (aF 20)) (aC:Callee P w K mg base 1 "_law_next" ["_law_x"] (aG aM 1 1)) (bw:Callee P w K mg base 1 "_law_sorted" ["_law_many","_law_rows_here"] (aG bi 2 4)) (bN:mg "range"=none) (DW:mg "min"=none) (kO:mg "max"=none) (bM:mg "len"=none):cF P w K mg base 21 ["_law_form_here","_law_many","_law_script","_law_start","_law_most","_law_rows_here","_law_k","_law_x"] "_law_table" je f gJ :=
 ⟨fun cdv A outer s H E hr hp=>(ak (fV (i:=5) uP.nd rfl ‹1› (lP (aj))) (ak (eV hp rfl (zx rfl bN (aa (ae (xv 3)) (aa (bu (zQ rfl) rfl DW PyProof.Rows.boot_min (aa (bu (tS rfl) rfl kO SM (aa (bu ce rfl bM PySem.boot_len (aa (ae (xv 2)) (aj))) (aa (ao bf av (ae (xv 3)) (ai)) (aj)))) (aa (ao bf av (ae (xv 3)) (ae (xv 4))) (aj)))) (aj)))) (bg (i:=6) uP.nd rfl ‹1›) (ak (aK (i:=7) uP.nd rfl ‹1› (aw dJ aI hr ‹0› (aa (ae (xv 2)) (aa (ae (xv 6)) (aj))))) (ak (lE SV SW d5 fE (xv 5) (aa (aw dX (fP 20) hr ‹0› (aa (ae (xv 0)) (aa (ae (xv 1)) (aa (aH (lK (aa (ao bJ bI (ao bD cH (ae (xv 7)) (ai)) (ai)) (aa (ao bD cH (ae (xv 7)) (ai)) (aj)))) (ao bJ bI (ae (xv 7)) (ai)) (fun _ _=>rfl)) (aa (aw aC aI hr ‹0› (aa (ae (xv 7)) (aj))) (aj)))))) (aj))) (cN [6,7] aV)))) (e6 5 (ay (aL (aw bw aI hr ‹0› (aa (bu ce rfl bM PySem.boot_len (aa (aH (ae (xv 0)) (ai) (fun _ _=>rfl)) (aj))) (aa (ae (xv 5)) (aj)))))))))⟩
theorem uM {f:S3} (bN:mg "range"=none) (bM:mg "len"=none) (aY:mg "tuple"=none) (eM:mg "sorted"=none) (fZ:mg "list"=none):cF P w K mg base 0 ["_law_x","_law_low","_law_letters","_law_one","_law_other","_law_some","_law_kept","_law_k"] "_law_plain" jh f dq :=
 ⟨fun cdv A outer s H E hr hp=>(ak (cx (bX (sS hr.units) av (ao bJ bI (ae (xv 0)) (ai)) (ai) (cz _)) (ak (aK (i:=1) uU.nd rfl ‹1› (aH (lK (aa (ai) (aa (wY (ai)) (aa (ao sB ug (ai) (ao bJ bI (ao qo qw (ae (xv 0)) (ai)) (ao qo qw (ai) (ai)))) (aa (ao bJ bI (ao qo qw (ae (xv 0)) (ai)) (ao qo qw (ai) (ai))) (aj)))))) (ao bJ bI (ao bD cH (ae (xv 0)) (ai)) (ai)) (fun _ _=>rfl))) (ay (aL (bx (aa (eE) (aa (ae (xv 1)) (aa (ao bf av (ae (xv 1)) (aH (lK (aa (ai) (aa (ai) (aa (ai) (aa (ao qo qw (ai) (ai)) (aj)))))) (ao bJ bI (ao bD cH (ae (xv 0)) (ai)) (ai)) (fun _ _=>rfl))) (aj)))))))) (aV)) (ak (aK (i:=2) uU.nd rfl ‹1› (eE)) (ak (aK (i:=3) uU.nd rfl ‹1› (aH (ae (xv 2)) (ao bJ bI (ao bD cH (ae (xv 0)) (ai)) (ai)) (fun _ _=>rfl))) (ak (aK (i:=4) uU.nd rfl ‹1› (aH (ae (xv 2)) (ao bJ bI (ao bD cH (ae (xv 0)) (ai)) (ai)) (fun _ _=>rfl))) (ak (aK (i:=5) uU.nd rfl ‹1› (lK (aa (eE) (aa (ae (xv 3)) (aa (ae (xv 4)) (aa (ao bf av (ae (xv 3)) (ae (xv 4))) (aa (ao bf av (ae (xv 4)) (ae (xv 3))) (aa (ao wK av (ae (xv 3)) (ai)) (aa (ao bf av (ae (xv 3)) (ae (xv 3))) (aa (ao wK av (ae (xv 4)) (ai)) (aj))))))))))) (ak (fV (i:=6) uU.nd rfl ‹1› (qE)) (cN [1,2,4] (ak (eV hp rfl (jE rfl bN (aa (ai) (aj))) (bg (i:=7) uU.nd rfl ‹1›) (ak (cx (bX (e9 hr.units) av (ao Ir Jy (ao JH IP (ao bD cH (ae (xv 0)) (ai)) (ae (xv 7))) (ai)) (ai) (cz _)) (ay (yY (hr.units) (xv 6) (aH (ae (xv 5)) (ae (xv 7)) (fun _ _=>rfl)) (gw))) (aV)) (cN [7] aV))) (ak (cx (sN [6] (bX (e9 hr.units) av (bu BM rfl bM PySem.boot_len (aa (ae (xv 6)) (aj))) (ai) (cz _))) (ay (yY (hr.units) (xv 6) (ae (xv 3)) (gw))) (aV)) (e6 6 (ay (aL (bx (aa (eE) (aa (bP cU rfl aY SJ (aa (bu lA rfl eM jf (aa (bP (AK rfl) rfl fZ SL (aa (ae (xv 6)) (aj))) (aj))) (aj))) (aj))))))))))))))))⟩
theorem wH {n:Nat} {f:S3} (dg:Callee P w K mg base 1 "_law_plain" ["_law_x"] (aG dq 1 8)) (aC:Callee P w K mg base 1 "_law_next" ["_law_x"] (aG aM 1 1)) (bU:Callee P w K mg base 1 "_law_name" ["_law_base","_law_k"] (aG bT 2 7)) (bN:mg "range"=none) (aY:mg "tuple"=none) {bd:List D->R D} (mH:Callee P w K mg base (1+n) "_law_kind" ["_law_x","_law_base","_law_deep"] bd) (L__law_kind:Ar 3 bd) {aP:List D->R D} (fh:Callee P w K mg base (1+n) "_law_form" ["_law_x","_law_base","_law_start","_law_many","_law_more","_law_deep"] aP) (L__law_form:Ar 6 aP):cF P w K mg base (1+n) ["_law_x","_law_base","_law_deep","_law_inner"] "_law_kind" iD f (iB bd aP) :=
 ⟨fun cdv A outer s H E hr hp=>(ak (cx (Fw (j4 (bX (e9 hr.units) av (ae (xv 2)) (ai) (cz _)) (iz (bX (sS hr.units) av (ao bJ bI (ae (xv 0)) (ai)) (ai) (cz _))))) (ay (aL (aw dg aI hr ‹0› (aa (ao bD cH (ae (xv 0)) (ai)) (aj))))) (aV)) (ak (aK (i:=3) wX.nd rfl ‹1› (aw fh L__law_form hr ‹0› (aa (ao bD cH (ae (xv 0)) (ai)) (aa (ae (xv 1)) (aa (ao bJ bI (ao bD cH (ae (xv 0)) (ai)) (ai)) (aa (ao bf av (ai) (ao bJ bI (ao bD cH (ae (xv 0)) (ai)) (ai))) (aa (ao bJ bI (ao bD cH (ae (xv 0)) (ai)) (ai)) (aa (ao sB ug (ae (xv 2)) (ai)) (aj))))))))) (ay (aL (bx (aa (eE) (aa (ae (xv 3)) (aa (nW (e9 hr.units) av (ao bJ bI (ao bD cH (ae (xv 0)) (ai)) (ai)) (ai) (cz _)) (aj)))))))))⟩
theorem xC {n:Nat} {f:S3} (dg:Callee P w K mg base 1 "_law_plain" ["_law_x"] (aG dq 1 8)) (aC:Callee P w K mg base 1 "_law_next" ["_law_x"] (aG aM 1 1)) (bU:Callee P w K mg base 1 "_law_name" ["_law_base","_law_k"] (aG bT 2 7)) (bN:mg "range"=none) (aY:mg "tuple"=none) {bd:List D->R D} (mH:Callee P w K mg base (1+n) "_law_kind" ["_law_x","_law_base","_law_deep"] bd) (L__law_kind:Ar 3 bd) {aP:List D->R D} (fh:Callee P w K mg base (1+n) "_law_form" ["_law_x","_law_base","_law_start","_law_many","_law_more","_law_deep"] aP) (L__law_form:Ar 6 aP):cF P w K mg base (1+n) ["_law_x","_law_base","_law_start","_law_many","_law_more","_law_deep","_law_key","_law_rest","_law_k"] "_law_form" iK f (jT bd aP) :=
 ⟨fun cdv A outer s H E hr hp=>(ak (fV (i:=6) wD.nd rfl ‹1› (lP (aj))) (ak (fV (i:=7) wD.nd rfl ‹1› (lP (aj))) (ak (eV hp rfl (jE rfl bN (aa (ao bf av (ae (xv 3)) (ae (xv 4))) (aj))) (bg (i:=8) wD.nd rfl ‹1›) (ak (aK (i:=0) wD.nd rfl ‹1› (aw aC aI hr ‹0› (aa (ae (xv 0)) (aj)))) (ak (cx (bX (sS hr.units) av (ae (xv 8)) (ae (xv 3)) (cz _)) (ay (lE SV SW d5 fE (xv 6) (aa (bx (aa (aw bU aI hr ‹0› (aa (ae (xv 1)) (aa (ao bf av (ae (xv 2)) (ae (xv 8))) (aj)))) (aa (aw dg aI hr ‹0› (aa (ae (xv 0)) (aj))) (aj)))) (aj)))) (ay (lE SV SW d5 fE (xv 7) (aa (bx (aa (aw bU aI hr ‹0› (aa (ae (xv 1)) (aa (ao bf av (ae (xv 2)) (ae (xv 8))) (aj)))) (aa (aw mH L__law_kind hr ‹0› (aa (ae (xv 0)) (aa (ae (xv 1)) (aa (ae (xv 5)) (aj))))) (aj)))) (aj))))) (cN [8] aV)))) (e6 7 (e6 6 (ay (aL (bx (aa (bP cU rfl aY SJ (aa (ae (xv 6)) (aj))) (aa (bP cU rfl aY SJ (aa (ae (xv 7)) (aj))) (aj)))))))))))⟩
theorem oH {f__law_kind:S3} {fd__law_kind:TK} (F__law_kind:wF K "_law_kind" "_law_kind" iD f__law_kind fd__law_kind) (mO:Binds K fd__law_kind ["_law_x","_law_base","_law_deep"] []) (m__law_kind:mg "_law_kind"=some (.ref f__law_kind)) {f__law_form:S3} {fd__law_form:TK} (F__law_form:wF K "_law_form" "_law_form" iK f__law_form fd__law_form) (mS:Binds K fd__law_form ["_law_x","_law_base","_law_start","_law_many","_law_more","_law_deep"] []) (m__law_form:mg "_law_form"=some (.ref f__law_form)) (dg:Callee P w K mg base 1 "_law_plain" ["_law_x"] (aG dq 1 8)) (aC:Callee P w K mg base 1 "_law_next" ["_law_x"] (aG aM 1 1)) (bU:Callee P w K mg base 1 "_law_name" ["_law_base","_law_k"] (aG bT 2 7)) (bN:mg "range"=none) (aY:mg "tuple"=none):∀ n:Nat,Callee P w K mg base (1+n) "_law_kind" ["_law_x","_law_base","_law_deep"] (bd n)/\Callee P w K mg base (1+n) "_law_form" ["_law_x","_law_base","_law_start","_law_many","_law_more","_law_deep"] (aP n)
 | 0=>by
  rw [bd]; rw [aP];exact⟨gg 1 F__law_kind mO m__law_kind,gg 1 F__law_form mS m__law_form⟩
 | n+1=>by
  have ih:=oH F__law_kind mO m__law_kind F__law_form mS m__law_form dg aC bU bN aY n;rw [fI]; rw [gV];exact⟨bC F__law_kind mO m__law_kind wX (cF.ok (wH dg aC bU bN aY ih.1 (mM n) ih.2 (gH n))),bC F__law_form mS m__law_form wD (cF.ok (xC dg aC bU bN aY ih.1 (mM n) ih.2 (gH n)))⟩
theorem ox {f:S3} (dJ:Callee P w K mg base 2 "_law_seed" ["_law_script","_law_k"] (aG cT 2 3)) (cC:Callee P w K mg base 1 "_law_cell_at" ["_law_script","_law_k"] (aG bS 2 2)) (fh:Callee P w K mg base 21 "_law_form" ["_law_x","_law_base","_law_start","_law_many","_law_more","_law_deep"] (aP 20)) (aC:Callee P w K mg base 1 "_law_next" ["_law_x"] (aG aM 1 1)) (bU:Callee P w K mg base 1 "_law_name" ["_law_base","_law_k"] (aG bT 2 7)):cF P w K mg base 21 ["_law_script","_law_some","_law_x","_law_base","_law_many","_law_inside","_law_key","_law_deep","_law_inner","_law_name_here"] "_law_parted_form" eJ f dG :=
 ⟨fun cdv A outer s H E hr hp=>(ak (aK (i:=2) oy.nd rfl ‹1› (aw dJ aI hr ‹0› (aa (ae (xv 0)) (aa (ai) (aj))))) (ak (aK (i:=3) oy.nd rfl ‹1› (ao bJ bI (ao iQ iS (aw cC aI hr ‹0› (aa (ae (xv 0)) (aa (ai) (aj)))) (ai)) (ai))) (ak (aK (i:=4) oy.nd rfl ‹1› (ao bf av (ai) (ao bJ bI (ae (xv 2)) (ai)))) (ak (aK (i:=5) oy.nd rfl ‹1› (ao bf av (ai) (ao bJ bI (ao bD cH (ae (xv 2)) (ai)) (ai)))) (ak (cx (bX (e9 hr.units) av (ao bJ bI (ao bD cH (ae (xv 2)) (ai)) (ai)) (ai) (cz _)) (ak (aK (i:=4) oy.nd rfl ‹1› (ao sB ug (ai) (ao bJ bI (ao bD cH (ae (xv 2)) (ai)) (ai)))) (ay (aK (i:=5) oy.nd rfl ‹1› (ao sB ug (ai) (ae (xv 4)))))) (aV)) (ak (aK (i:=6) oy.nd rfl ‹1› (aH (aw fh (gH 20) hr ‹0› (aa (aw aC aI hr ‹0› (aa (ae (xv 2)) (aj))) (aa (ae (xv 3)) (aa (ai) (aa (ae (xv 4)) (aa (ai) (aa (ai) (aj)))))))) (ai) (fun _ _=>rfl))) (ak (aK (i:=7) oy.nd rfl ‹1› (aH (lK (aa (ai) (aa (ai) (aa (ai) (aa (ai) (aj)))))) (ao bJ bI (ao bD cH (ae (xv 2)) (ai)) (ai)) (fun _ _=>rfl))) (ak (aK (i:=8) oy.nd rfl ‹1› (aw fh (gH 20) hr ‹0› (aa (ao bf av (aw aC aI hr ‹0› (aa (ae (xv 2)) (aj))) (ai)) (aa (ae (xv 3)) (aa (ai) (aa (ae (xv 5)) (aa (ao bJ bI (ao bD cH (ae (xv 2)) (ai)) (ai)) (aa (ae (xv 7)) (aj))))))))) (ak (aK (i:=9) oy.nd rfl ‹1› (aw bU aI hr ‹0› (aa (ae (xv 3)) (aa (aH (lK (aa (ai) (aa (ai) (aa (ai) (aa (ai) (aj)))))) (ao bJ bI (ao bD cH (ae (xv 2)) (ai)) (ai)) (fun _ _=>rfl)) (aj))))) (ay (aL (bx (aa (ae (xv 6)) (aa (bx (aa (bx (aa (ae (xv 9)) (aa (bx (aa (eE) (aa (ae (xv 8)) (aa (ae (xv 1)) (aj))))) (aj)))) (aj))) (aj)))))))))))))))⟩
theorem Jq {f:S3} {fd:TK} (F:wF K "law" "law" uw f fd) (aC:Callee P w K mg base 1 "_law_next" ["_law_x"] (aG aM 1 1)) (dJ:Callee P w K mg base 2 "_law_seed" ["_law_script","_law_k"] (aG cT 2 3)) (fY:Callee P w K mg base 22 "_law_parted_form" ["_law_script","_law_some"] (aG dG 2 10)) (dC:Callee P w K mg base 1 "_law_flat_form" ["_law_form_here"] (aG cu 1 2)) (kZ:Callee P w K mg base 22 "_law_table" ["_law_form_here","_law_many","_law_script","_law_start","_law_most"] (aG gJ 5 8)) (eO:Callee P w K mg base 1 "_law_nested" ["_law_table_here","_law_many"] (aG du 2 6)) (gE:Callee P w K mg base 22 "_law_with_empty" ["_law_form_here","_law_nested_here","_law_xs"] (aG dR 3 7)) (bQ:Callee P w K mg base 20 "_law_alike" ["_law_found","_law_due"] (az 20)) (bU:Callee P w K mg base 1 "_law_name" ["_law_base","_law_k"] (aG bT 2 7)) (cC:Callee P w K mg base 1 "_law_cell_at" ["_law_script","_law_k"] (aG bS 2 2)) (lu:Callee P w K mg base 22 "_law_again" ["_law_step","_law_form_here","_law_extra","_law_x"] (aG fH 4 10)) (cP:dY P w K mg base 22 "view_form" ["self","form"] [("Step",(aG bA 2 2)),("Unnest",(aG aR 2 5))]) (ng:dY P w K mg base 22 "words" ["self"] [("Step",(aG fG 1 1)),("Unnest",(aG cV 1 1))]) (dL:dY P w K mg base 22 "exact" ["self","form"] [("Step",(aG cp 2 2)),("Unnest",(aG aN 2 2))]) (gO:dY P w K mg base 22 "steady" ["self","form"] [("Step",(aG dA 2 2)),("Unnest",(aG bV 2 2))]) (dF:dY P w K mg base 22 "got" ["self","form","table"] [("Step",(aG cA 3 3)),("Unnest",(aG bo 3 3))]) (sA:sF P w K mg base 1 "Unnest" ["self","name"] ["name"]) (bM:mg "len"=none) (bN:mg "range"=none) (bq:mg "isinstance"=none) (ie:mg "bool"=none):jI P w K mg base (oC P w) 23 f fd ["_law_script"] (Di K 1 (aG tN 1 11)) :=
 xh (k:=22) F JD (cF.ok ⟨fun cdv A outer s H E hr hp=>(ak (aK (i:=1) JD.nd rfl ‹1› (aw aC aI hr ‹0› (aa (aw dJ aI hr ‹0› (aa (ae (xv 0)) (aa (ai) (aj)))) (aj)))) (ak (aK (i:=2) JD.nd rfl ‹1› (nW (e9 hr.units) av (ao bJ bI (ae (xv 1)) (ai)) (ai) (cz _))) (ak (aK (i:=3) JD.nd rfl ‹1› (aw fY aI hr ‹0› (aa (ae (xv 0)) (aa (ae (xv 2)) (aj))))) (ak (aK (i:=4) JD.nd rfl ‹1› (bu ce rfl bM PySem.boot_len (aa (aH (ae (xv 3)) (ai) (fun _ _=>rfl)) (aj)))) (ak (aK (i:=5) JD.nd rfl ‹1› (aw dC aI hr ‹0› (aa (ae (xv 3)) (aj)))) (ak (aK (i:=6) JD.nd rfl ‹1› (aw kZ aI hr ‹0› (aa (ae (xv 5)) (aa (ae (xv 4)) (aa (ae (xv 0)) (aa (ai) (aa (ai) (aj)))))))) (ak (aK (i:=7) JD.nd rfl ‹1› (aw eO aI hr ‹0› (aa (ae (xv 6)) (aa (ae (xv 4)) (aj))))) (ak (cx (gK (cD (ae (xv 2)))) (ay (aK (i:=7) JD.nd rfl ‹1› (aw gE aI hr ‹0› (aa (ae (xv 3)) (aa (ae (xv 7)) (aa (jX (N:=["_law_k","_law_x"]) (ix:=[none,some 1]) rfl (.of rfl) (eB rfl) (jE rfl bN (aa (ao bJ bI (ao bD cH (ae (xv 1)) (ai)) (ai)) (aj))) ⟨fun _ _ _ _ _ _=>⟨bg (i:=0) Kx rfl (Or.inl rfl),fu,aw aC aI hr ‹0› (aa (ao bf av (ae (xv 1)) (ao iQ iS (ao iQ iS (ai) (ae (xv 0))) (ae (xv 0)))) (aj))⟩⟩) (aj))))))) (aV)) (ak (aK (i:=8) JD.nd rfl ‹1› (aH (aH (aH (ae (xv 3)) (ai) (fun _ _=>rfl)) (ai) (fun _ _=>rfl)) (ai) (fun _ _=>rfl))) (ak (aK (i:=9) JD.nd rfl ‹1› (G4 sA hr ‹0› rfl (aa (ae (xv 8)) (aj)))) (ak (cx (Fw (j4 (gK (cD (aw bQ (cm 20) hr ‹0› (aa (dP cP hr ‹0› (ae (xv 9)) (aa (ae (xv 3)) (aj))) (aa (ae (xv 5)) (aj)))))) (iz (gK (cD (aw bQ (cm 20) hr ‹0› (aa (BD ng hr ‹0› (ae (xv 9))) (aa (bx (aa (eE) (aa (ae (xv 8)) (aj)))) (aj))))))))) (ay (aL (gw))) (aV)) (ak (cx (Fw (j4 (gK (cD (gq jr rfl bq rfl ie SG (dP dL hr ‹0› (ae (xv 9)) (aa (ae (xv 3)) (aj)))))) (iz (gK (cD (gq jr rfl bq rfl ie SG (dP gO hr ‹0› (ae (xv 9)) (aa (ae (xv 3)) (aj))))))))) (ay (aL (gw))) (aV)) (ak (cx (Fw (j4 (bX (qS hr.units) av (dP dL hr ‹0› (ae (xv 9)) (aa (ae (xv 3)) (aj))) (ae (xv 2)) (cz _)) (iz (bX (qS hr.units) av (dP gO hr ‹0› (ae (xv 9)) (aa (ae (xv 3)) (aj))) (ae (xv 2)) (cz _))))) (ay (aL (gw))) (aV)) (ak (cx (Fw (j4 (gK (cD (aw bQ (cm 20) hr ‹0› (aa (dP dF hr ‹0› (ae (xv 9)) (aa (ae (xv 3)) (aa (ae (xv 7)) (aj)))) (aa (ae (xv 6)) (aj)))))) (iz (bX (qS hr.units) av (dP dF hr ‹0› (ae (xv 9)) (aa (ae (xv 3)) (aa (bx (aj)) (aj)))) (bx (aj)) (cz _))))) (ay (aL (gw))) (aV)) (ak (aK (i:=10) JD.nd rfl ‹1› (aw bU aI hr ‹0› (aa (ao bJ bI (ao iQ iS (aw cC aI hr ‹0› (aa (ae (xv 0)) (aa (ai) (aj)))) (ai)) (ai)) (aa (ai) (aj))))) (ak (cx (Fw (j4 (gK (cD (aw lu aI hr ‹0› (aa (ae (xv 9)) (aa (ae (xv 3)) (aa (ae (xv 10)) (aa (ae (xv 1)) (aj)))))))) (iz (gK (cD (aw bQ (cm 20) hr ‹0› (aa (dP cP hr ‹0› (ae (xv 9)) (aa (ae (xv 3)) (aj))) (aa (ae (xv 5)) (aj))))))))) (ay (aL (gw))) (aV)) (ay (aL (aw bQ (cm 20) hr ‹0› (aa (dP dF hr ‹0› (ae (xv 9)) (aa (ae (xv 3)) (aa (ae (xv 7)) (aj)))) (aa (ae (xv 6)) (aj))))))))))))))))))))))⟩)
theorem yx {C f:S3} {fd:TK} (h1:clsAt K "Unnest" C) (hM:Mk K C f) (cl:AG K C) (na:∀ g∈(["name"]:List Str),lg K C g) (F:wF K "__init__" "Unnest.__init__" eY f fd) (b:Binds K fd ["self","name"] []) (hmg:mg "Unnest"=some (.ref C)):sF P w K mg base 1 "Unnest" ["self","name"] ["name"] :=
 CK (k:=0) h1 hM cl na F b hmg oQ rfl (by decide +kernel) (by decide) fun cdv A outer s H E=>(CO rfl (pv 0) (pv 1) rfl)
end
theorem BW {us:List SY} (h:us.length=1):∃ u0,us=[u0]:=match us,h with | [u0],_=>⟨u0,rfl⟩
theorem jZ {us:List SY} (h:us.length=2):∃ u0 u1,us=[u0,u1]:=match us,h with | [u0,u1],_=>⟨u0,u1,rfl⟩
theorem Cm {us:List SY} (h:us.length=3):∃ u0 u1 u2,us=[u0,u1,u2]:=match us,h with | [u0,u1,u2],_=>⟨u0,u1,u2,rfl⟩
theorem Gp {us:List SY} (h:us.length=4):∃ u0 u1 u2 u3,us=[u0,u1,u2,u3]:=match us,h with | [u0,u1,u2,u3],_=>⟨u0,u1,u2,u3,rfl⟩
theorem MA {us:List SY} (h:us.length=5):∃ u0 u1 u2 u3 u4,us=[u0,u1,u2,u3,u4]:=match us,h with | [u0,u1,u2,u3,u4],_=>⟨u0,u1,u2,u3,u4,rfl⟩
theorem Nt {us:List SY} (h:us.length=6):∃ u0 u1 u2 u3 u4 u5,us=[u0,u1,u2,u3,u4,u5]:=match us,h with | [u0,u1,u2,u3,u4,u5],_=>⟨u0,u1,u2,u3,u4,u5,rfl⟩
theorem all_mk {l:Sb} {w:SZ} {K:RL} {h:S5} {mg:Str->Option SY} {fa:S3} (X:K.In h) (G:h.Ns S8 mg) (hfa:mg "law"=some (.ref fa)) {f0 f1 f2 f3 f4 f5 f6 f7 f8 f9 f10 f11 f12 f13 f14 f15 f16 f17 f18 f19 f20 f21 f22 f23 f24 f25 f26 f27 f28 f29 f30 f31 f32 f33 f34 f35 f36 f37 f38 f39 Cl0 Cl1:S3} {od0 an0 od1 an1 od2 an2 od3 an3 od4 an4 od5 an5 od6 an6 od7 an7 od8 an8 od9 an9 od10 an10 od11 an11 od12 an12 od13 an13 od14 an14 od15 an15 od16 an16 od17 an17 od18 an18 od19 an19 od20 an20 od21 an21 od22 an22 od23 an23 od24 an24 od25 an25 od26 an26 od27 an27 od28 an28 od29 an29 od30 an30 od31 an31 od32 an32 od33 an33 od34 an34 od35 an35 od36 an36 od37 an37 od38 an38 od39 an39:Option S3} {sl0 sl1 sl2 sl3 sl4 sl5 sl6 sl7 sl8 sl9 sl10 sl11 sl12 sl13 sl14 sl15 sl16 sl17 sl18 sl19 sl20 sl21 sl22 sl23 sl24 sl25 sl26 sl27 sl28 sl29 sl30 sl31 sl32 sl33 sl34 sl35 sl36 sl37 sl38 sl39:Array (Option SY)} {oc0 kV0 dc0 pm0 cd0 ct0 oc1 kV1 dc1 pm1 cd1 ct1 oc2 kV2 dc2 pm2 cd2 ct2 oc3 kV3 dc3 pm3 cd3 ct3 oc4 kV4 dc4 pm4 cd4 ct4 oc5 kV5 dc5 pm5 cd5 ct5 oc6 kV6 dc6 pm6 cd6 ct6 oc7 kV7 dc7 pm7 cd7 ct7 oc8 kV8 dc8 pm8 cd8 ct8 oc9 kV9 dc9 pm9 cd9 ct9 oc10 kV10 dc10 pm10 cd10 ct10 oc11 kV11 dc11 pm11 cd11 ct11 oc12 kV12 dc12 pm12 cd12 ct12 oc13 kV13 dc13 pm13 cd13 ct13 oc14 kV14 dc14 pm14 cd14 ct14 oc15 kV15 dc15 pm15 cd15 ct15 oc16 kV16 dc16 pm16 cd16 ct16 oc17 kV17 dc17 pm17 cd17 ct17 oc18 kV18 dc18 pm18 cd18 ct18 oc19 kV19 dc19 pm19 cd19 ct19 oc20 kV20 dc20 pm20 cd20 ct20 oc21 kV21 dc21 pm21 cd21 ct21 oc22 kV22 dc22 pm22 cd22 ct22 oc23 kV23 dc23 pm23 cd23 ct23 oc24 kV24 dc24 pm24 cd24 ct24 oc25 kV25 dc25 pm25 cd25 ct25 oc26 kV26 dc26 pm26 cd26 ct26 oc27 kV27 dc27 pm27 cd27 ct27 oc28 kV28 dc28 pm28 cd28 ct28 oc29 kV29 dc29 pm29 cd29 ct29 oc30 kV30 dc30 pm30 cd30 ct30 oc31 kV31 dc31 pm31 cd31 ct31 oc32 kV32 dc32 pm32 cd32 ct32 oc33 kV33 dc33 pm33 cd33 ct33 oc34 kV34 dc34 pm34 cd34 ct34 oc35 kV35 dc35 pm35 cd35 ct35 oc36 kV36 dc36 pm36 cd36 ct36 oc37 kV37 dc37 pm37 cd37 ct37 oc38 kV38 dc38 pm38 cd38 ct38 oc39 kV39 dc39 pm39 cd39 ct39:SY} {tk0:Tok} {cL T:S3}
  (ac0:R5 K S8 "Unnest"=some (some (.ref Cl0)))
  (ac1:R5 K S8 "Step"=some (some (.ref Cl1)))
  (a0:R5 K S8 "_law_alike"=some (some (.ref f0)))
  (l0:Lk K f0 "_law_alike" "_law_alike" gC oc0 od0 kV0 dc0 pm0 an0 cd0 ct0 sl0)
  (c0:R4 K cd0 "_law_alike"=true)
  (k0:RZ K (.ref f0)=true)
  (a1:RP K (.ref Cl1) "got"=some (some (.ref f1)))
  (i1:RU K (.ref f1)=true)
  (l1:Lk K f1 "got" "Step.got" lD oc1 od1 kV1 dc1 pm1 an1 cd1 ct1 sl1)
  (c1:R4 K cd1 "Step.got"=true)
  (k1:RZ K (.ref f1)=true)
  (a2:R5 K S8 "unnested"=some (some (.ref f2)))
  (l2:Lk K f2 "unnested" "unnested" lj oc2 od2 kV2 dc2 pm2 an2 cd2 ct2 sl2)
  (c2:R4 K cd2 "unnested"=true)
  (k2:RZ K (.ref f2)=true)
  (a3:RP K (.ref Cl0) "got"=some (some (.ref f3)))
  (i3:RU K (.ref f3)=true)
  (l3:Lk K f3 "got" "Unnest.got" jk oc3 od3 kV3 dc3 pm3 an3 cd3 ct3 sl3)
  (c3:R4 K cd3 "Unnest.got"=true)
  (k3:RZ K (.ref f3)=true)
  (a4:RP K (.ref Cl1) "view_form"=some (some (.ref f4)))
  (i4:RU K (.ref f4)=true)
  (l4:Lk K f4 "view_form" "Step.view_form" fD oc4 od4 kV4 dc4 pm4 an4 cd4 ct4 sl4)
  (c4:R4 K cd4 "Step.view_form"=true)
  (k4:RZ K (.ref f4)=true)
  (a5:R5 K S8 "names_of"=some (some (.ref f5)))
  (l5:Lk K f5 "names_of" "names_of" lF oc5 od5 kV5 dc5 pm5 an5 cd5 ct5 sl5)
  (c5:R4 K cd5 "names_of"=true)
  (k5:RZ K (.ref f5)=true)
  (a6:R5 K S8 "kind_at"=some (some (.ref f6)))
  (l6:Lk K f6 "kind_at" "kind_at" n8 oc6 od6 kV6 dc6 pm6 an6 cd6 ct6 sl6)
  (c6:R4 K cd6 "kind_at"=true)
  (k6:RZ K (.ref f6)=true)
  (a7:R5 K S8 "place_of"=some (some (.ref f7)))
  (l7:Lk K f7 "place_of" "place_of" lV oc7 od7 kV7 dc7 pm7 an7 cd7 ct7 sl7)
  (c7:R4 K cd7 "place_of"=true)
  (k7:RZ K (.ref f7)=true)
  (a8:RP K (.ref Cl0) "view_form"=some (some (.ref f8)))
  (i8:RU K (.ref f8)=true)
  (l8:Lk K f8 "view_form" "Unnest.view_form" eI oc8 od8 kV8 dc8 pm8 an8 cd8 ct8 sl8)
  (c8:R4 K cd8 "Unnest.view_form"=true)
  (k8:RZ K (.ref f8)=true)
  (a9:RP K (.ref Cl1) "put"=some (some (.ref f9)))
  (i9:RU K (.ref f9)=true)
  (l9:Lk K f9 "put" "Step.put" lU oc9 od9 kV9 dc9 pm9 an9 cd9 ct9 sl9)
  (c9:R4 K cd9 "Step.put"=true)
  (k9:RZ K (.ref f9)=true)
  (a10:R5 K S8 "sorted_by"=some (some (.ref f10)))
  (l10:Lk K f10 "sorted_by" "sorted_by" jN oc10 od10 kV10 dc10 pm10 an10 cd10 ct10 sl10)
  (c10:R4 K cd10 "sorted_by"=true)
  (k10:RZ K (.ref f10)=true)
  (a11:R5 K S8 "by_key"=some (some (.ref f11)))
  (l11:Lk K f11 "by_key" "by_key" pP oc11 od11 kV11 dc11 pm11 an11 cd11 ct11 sl11)
  (c11:R4 K cd11 "by_key"=true)
  (k11:RZ K (.ref f11)=true)
  (a12:R5 K S8 "standing"=some (some (.ref f12)))
  (l12:Lk K f12 "standing" "standing" ly oc12 od12 kV12 dc12 pm12 an12 cd12 ct12 sl12)
  (c12:R4 K cd12 "standing"=true)
  (k12:RZ K (.ref f12)=true)
  (a13:R5 K S8 "grouped"=some (some (.ref f13)))
  (l13:Lk K f13 "grouped" "grouped" nu oc13 od13 kV13 dc13 pm13 an13 cd13 ct13 sl13)
  (c13:R4 K cd13 "grouped"=true)
  (k13:RZ K (.ref f13)=true)
  (a14:RP K (.ref Cl0) "put"=some (some (.ref f14)))
  (i14:RU K (.ref f14)=true)
  (l14:Lk K f14 "put" "Unnest.put" ji oc14 od14 kV14 dc14 pm14 an14 cd14 ct14 sl14)
  (c14:R4 K cd14 "Unnest.put"=true)
  (k14:RZ K (.ref f14)=true)
  (a15:RP K (.ref Cl1) "exact"=some (some (.ref f15)))
  (i15:RU K (.ref f15)=true)
  (l15:Lk K f15 "exact" "Step.exact" jg oc15 od15 kV15 dc15 pm15 an15 cd15 ct15 sl15)
  (c15:R4 K cd15 "Step.exact"=true)
  (k15:RZ K (.ref f15)=true)
  (a16:RP K (.ref Cl0) "exact"=some (some (.ref f16)))
  (i16:RU K (.ref f16)=true)
  (l16:Lk K f16 "exact" "Unnest.exact" gI oc16 od16 kV16 dc16 pm16 an16 cd16 ct16 sl16)
  (c16:R4 K cd16 "Unnest.exact"=true)
  (k16:RZ K (.ref f16)=true)
  (a17:R5 K S8 "_law_nested"=some (some (.ref f17)))
  (l17:Lk K f17 "_law_nested" "_law_nested" iu oc17 od17 kV17 dc17 pm17 an17 cd17 ct17 sl17)
  (c17:R4 K cd17 "_law_nested"=true)
  (k17:RZ K (.ref f17)=true)
  (a18:R5 K S8 "_law_next"=some (some (.ref f18)))
  (l18:Lk K f18 "_law_next" "_law_next" jU oc18 od18 kV18 dc18 pm18 an18 cd18 ct18 sl18)
  (c18:R4 K cd18 "_law_next"=true)
  (k18:RZ K (.ref f18)=true)
  (a19:R5 K S8 "_law_sorted"=some (some (.ref f19)))
  (l19:Lk K f19 "_law_sorted" "_law_sorted" iq oc19 od19 kV19 dc19 pm19 an19 cd19 ct19 sl19)
  (c19:R4 K cd19 "_law_sorted"=true)
  (k19:RZ K (.ref f19)=true)
  (a20:R5 K S8 "_law_value"=some (some (.ref f20)))
  (l20:Lk K f20 "_law_value" "_law_value" gA oc20 od20 kV20 dc20 pm20 an20 cd20 ct20 sl20)
  (c20:R4 K cd20 "_law_value"=true)
  (k20:RZ K (.ref f20)=true)
  (a21:R5 K S8 "_law_row"=some (some (.ref f21)))
  (l21:Lk K f21 "_law_row" "_law_row" jD oc21 od21 kV21 dc21 pm21 an21 cd21 ct21 sl21)
  (c21:R4 K cd21 "_law_row"=true)
  (k21:RZ K (.ref f21)=true)
  (a22:R5 K S8 "_law_rows"=some (some (.ref f22)))
  (l22:Lk K f22 "_law_rows" "_law_rows" iL oc22 od22 kV22 dc22 pm22 an22 cd22 ct22 sl22)
  (c22:R4 K cd22 "_law_rows"=true)
  (k22:RZ K (.ref f22)=true)
  (a23:R5 K S8 "_law_flat_form"=some (some (.ref f23)))
  (l23:Lk K f23 "_law_flat_form" "_law_flat_form" fJ oc23 od23 kV23 dc23 pm23 an23 cd23 ct23 sl23)
  (c23:R4 K cd23 "_law_flat_form"=true)
  (k23:RZ K (.ref f23)=true)
  (a24:R5 K S8 "_law_again"=some (some (.ref f24)))
  (l24:Lk K f24 "_law_again" "_law_again" jb oc24 od24 kV24 dc24 pm24 an24 cd24 ct24 sl24)
  (c24:R4 K cd24 "_law_again"=true)
  (k24:RZ K (.ref f24)=true)
  (a25:R5 K S8 "_law_name"=some (some (.ref f25)))
  (l25:Lk K f25 "_law_name" "_law_name" jP oc25 od25 kV25 dc25 pm25 an25 cd25 ct25 sl25)
  (c25:R4 K cd25 "_law_name"=true)
  (k25:RZ K (.ref f25)=true)
  (a26:R5 K S8 "_law_cell_at"=some (some (.ref f26)))
  (l26:Lk K f26 "_law_cell_at" "_law_cell_at" gD oc26 od26 kV26 dc26 pm26 an26 cd26 ct26 sl26)
  (c26:R4 K cd26 "_law_cell_at"=true)
  (k26:RZ K (.ref f26)=true)
  (a27:RP K (.ref Cl1) "steady"=some (some (.ref f27)))
  (i27:RU K (.ref f27)=true)
  (l27:Lk K f27 "steady" "Step.steady" iA oc27 od27 kV27 dc27 pm27 an27 cd27 ct27 sl27)
  (c27:R4 K cd27 "Step.steady"=true)
  (k27:RZ K (.ref f27)=true)
  (a28:RP K (.ref Cl0) "steady"=some (some (.ref f28)))
  (i28:RU K (.ref f28)=true)
  (l28:Lk K f28 "steady" "Unnest.steady" fX oc28 od28 kV28 dc28 pm28 an28 cd28 ct28 sl28)
  (c28:R4 K cd28 "Unnest.steady"=true)
  (k28:RZ K (.ref f28)=true)
  (a29:RP K (.ref Cl1) "words"=some (some (.ref f29)))
  (i29:RU K (.ref f29)=true)
  (l29:Lk K f29 "words" "Step.words" i6 oc29 od29 kV29 dc29 pm29 an29 cd29 ct29 sl29)
  (c29:R4 K cd29 "Step.words"=true)
  (k29:RZ K (.ref f29)=true)
  (a30:RP K (.ref Cl0) "words"=some (some (.ref f30)))
  (i30:RU K (.ref f30)=true)
  (l30:Lk K f30 "words" "Unnest.words" gz oc30 od30 kV30 dc30 pm30 an30 cd30 ct30 sl30)
  (c30:R4 K cd30 "Unnest.words"=true)
  (k30:RZ K (.ref f30)=true)
  (a31:R5 K S8 "_law_with_empty"=some (some (.ref f31)))
  (l31:Lk K f31 "_law_with_empty" "_law_with_empty" eW oc31 od31 kV31 dc31 pm31 an31 cd31 ct31 sl31)
  (c31:R4 K cd31 "_law_with_empty"=true)
  (k31:RZ K (.ref f31)=true)
  (a32:R5 K S8 "_law_seed"=some (some (.ref f32)))
  (l32:Lk K f32 "_law_seed" "_law_seed" jS oc32 od32 kV32 dc32 pm32 an32 cd32 ct32 sl32)
  (c32:R4 K cd32 "_law_seed"=true)
  (k32:RZ K (.ref f32)=true)
  (a33:R5 K S8 "_law_table"=some (some (.ref f33)))
  (l33:Lk K f33 "_law_table" "_law_table" je oc33 od33 kV33 dc33 pm33 an33 cd33 ct33 sl33)
  (c33:R4 K cd33 "_law_table"=true)
  (k33:RZ K (.ref f33)=true)
  (a34:R5 K S8 "_law_plain"=some (some (.ref f34)))
  (l34:Lk K f34 "_law_plain" "_law_plain" jh oc34 od34 kV34 dc34 pm34 an34 cd34 ct34 sl34)
  (c34:R4 K cd34 "_law_plain"=true)
  (k34:RZ K (.ref f34)=true)
  (a35:R5 K S8 "_law_kind"=some (some (.ref f35)))
  (l35:Lk K f35 "_law_kind" "_law_kind" iD oc35 od35 kV35 dc35 pm35 an35 cd35 ct35 sl35)
  (c35:R4 K cd35 "_law_kind"=true)
  (k35:RZ K (.ref f35)=true)
  (a36:R5 K S8 "_law_form"=some (some (.ref f36)))
  (l36:Lk K f36 "_law_form" "_law_form" iK oc36 od36 kV36 dc36 pm36 an36 cd36 ct36 sl36)
  (c36:R4 K cd36 "_law_form"=true)
  (k36:RZ K (.ref f36)=true)
  (a37:R5 K S8 "_law_parted_form"=some (some (.ref f37)))
  (l37:Lk K f37 "_law_parted_form" "_law_parted_form" eJ oc37 od37 kV37 dc37 pm37 an37 cd37 ct37 sl37)
  (c37:R4 K cd37 "_law_parted_form"=true)
  (k37:RZ K (.ref f37)=true)
  (a38:R5 K S8 "law"=some (some (.ref f38)))
  (l38:Lk K f38 "law" "law" uw oc38 od38 kV38 dc38 pm38 an38 cd38 ct38 sl38)
  (c38:R4 K cd38 "law"=true)
  (k38:RZ K (.ref f38)=true)
  (a39:RP K (.ref Cl0) "__init__"=some (some (.ref f39)))
  (i39:RU K (.ref f39)=true)
  (l39:Lk K f39 "__init__" "Unnest.__init__" eY oc39 od39 kV39 dc39 pm39 an39 cd39 ct39 sl39)
  (c39:R4 K cd39 "Unnest.__init__"=true)
  (k39:RZ K (.ref f39)=true)
  (p0:RN K Cl0 Str.empty=true)
  (q0:RO K Cl0=true)
  (r0:RV K Cl0=true)
  (s0:RP K (.ref Cl0) "__setattr__"=some (some (.builtin "object.__setattr__")))
  (n0_0:RP K (.ref Cl0) "name"=some none)
  (m0:RX K Cl0=true)
  (kp0:RZ K (.ref Cl0)=true)
  (p1:RN K Cl1 Str.empty=true)
  (q1:RO K Cl1=true)
  (r1:RV K Cl1=true)
  (s1:RP K (.ref Cl1) "__setattr__"=some (some (.builtin "object.__setattr__")))
  (z0:R5 K S8 "isinstance"=some none)
  (z1:R5 K S8 "str"=some none)
  (z2:R5 K S8 "bool"=some none)
  (z3:R5 K S8 "int"=some none)
  (z4:R5 K S8 "tuple"=some none)
  (z5:R5 K S8 "len"=some none)
  (z6:R5 K S8 "zip"=some none)
  (z7:R5 K S8 "enumerate"=some none)
  (z8:R5 K S8 "any"=some none)
  (z9:R5 K S8 "sorted"=some none)
  (z10:R5 K S8 "dict"=some none)
  (z11:R5 K S8 "list"=some none)
  (z12:R5 K S8 "max"=some none)
  (z13:R5 K S8 "range"=some none)
  (z14:R5 K S8 "min"=some none)
  (e0:R5 K S8 "MOST_FIELDS"=some (some (.int 8 tk0)))
  (lc:cd10=.ref cL)
  (lh:Se K cL T=true)
  (lt:K.lookup T=none) :
  (∃ c,Se K c T=true)/\K.lookup T=none/\∃ fd:TK,(∀ (s:Tc) (v:SY),TL s fd ⟨[v],[]⟩ [("_law_script",v)])/\∀ base:S5,K.In base->base.Ns S8 mg->Ac mg base->jI l.prog w K mg base (oC l.prog w) 23 fa fd ["_law_script"] (@Di (xc T ⟨23,34,23,56⟩ ((("sorted_by":Str) ++ ".<locals>.") ++ "<lambda>")) K 1 (aG tN 1 11)):=by
 letI:aX:=xc T ⟨23,34,23,56⟩ ((("sorted_by":Str) ++ ".<locals>.") ++ "<lambda>")
 have e:=hfa.symm.trans (Sf X G a38);cases e;have bq:=Sg X G z0;have ur:=Sg X G z1;have ie:=Sg X G z2;have iJ:=Sg X G z3;have aY:=Sg X G z4;have bM:=Sg X G z5;have we:=Sg X G z6;have mX:=Sg X G z7;have Ed:=Sg X G z8;have eM:=Sg X G z9;have qu:=Sg X G z10;have fZ:=Sg X G z11;have kO:=Sg X G z12;have bN:=Sg X G z13;have DW:=Sg X G z14;have c_MOST_FIELDS:∃ t,mg "MOST_FIELDS"=some (.int 8 t):=⟨_,Sf X G e0⟩
 have F0:=bE (st:=gC) l0 c0 k0;have b0:=F0.binds (ps:=["_law_found","_law_due"]) fun _ _ _ _ _ _ us hl=>by obtain⟨u0,u1,rfl⟩:=jZ hl; rfl
 have F1:=bE (st:=lD) l1 c1 k1;have b1:=F1.binds (ps:=["self","form","table"]) fun _ _ _ _ _ _ us hl=>by obtain⟨u0,u1,u2,rfl⟩:=Cm hl; rfl
 have F2:=bE (st:=lj) l2 c2 k2;have b2:=F2.binds (ps:=["many","table"]) fun _ _ _ _ _ _ us hl=>by obtain⟨u0,u1,rfl⟩:=jZ hl; rfl
 have F3:=bE (st:=jk) l3 c3 k3;have b3:=F3.binds (ps:=["self","form","table"]) fun _ _ _ _ _ _ us hl=>by obtain⟨u0,u1,u2,rfl⟩:=Cm hl; rfl
 have F4:=bE (st:=fD) l4 c4 k4;have b4:=F4.binds (ps:=["self","form"]) fun _ _ _ _ _ _ us hl=>by obtain⟨u0,u1,rfl⟩:=jZ hl; rfl
 have F5:=bE (st:=lF) l5 c5 k5;have b5:=F5.binds (ps:=["form"]) fun _ _ _ _ _ _ us hl=>by obtain⟨u0,rfl⟩:=BW hl; rfl
 have F6:=bE (st:=n8) l6 c6 k6;have b6:=F6.binds (ps:=["form","place"]) fun _ _ _ _ _ _ us hl=>by obtain⟨u0,u1,rfl⟩:=jZ hl; rfl
 have F7:=bE (st:=lV) l7 c7 k7;have b7:=F7.binds (ps:=["form","name"]) fun _ _ _ _ _ _ us hl=>by obtain⟨u0,u1,rfl⟩:=jZ hl; rfl
 have F8:=bE (st:=eI) l8 c8 k8;have b8:=F8.binds (ps:=["self","form"]) fun _ _ _ _ _ _ us hl=>by obtain⟨u0,u1,rfl⟩:=jZ hl; rfl
 have F9:=bE (st:=lU) l9 c9 k9;have b9:=F9.binds (ps:=["self","form","table","view"]) fun _ _ _ _ _ _ us hl=>by obtain⟨u0,u1,u2,u3,rfl⟩:=Gp hl; rfl
 have F10:=bE (st:=jN) l10 c10 k10;have b10:=F10.binds (ps:=["many","rows"]) fun _ _ _ _ _ _ us hl=>by obtain⟨u0,u1,rfl⟩:=jZ hl; rfl
 have F11:=bE (st:=pP) l11 c11 k11;have b11:=F11.binds (ps:=["many","rows"]) fun _ _ _ _ _ _ us hl=>by obtain⟨u0,u1,rfl⟩:=jZ hl; rfl
 have F12:=bE (st:=ly) l12 c12 k12;have b12:=F12.binds (ps:=["many","rows","others"]) fun _ _ _ _ _ _ us hl=>by obtain⟨u0,u1,u2,rfl⟩:=Cm hl; rfl
 have F13:=bE (st:=nu) l13 c13 k13;have b13:=F13.binds (ps:=["many","rows"]) fun _ _ _ _ _ _ us hl=>by obtain⟨u0,u1,rfl⟩:=jZ hl; rfl
 have F14:=bE (st:=ji) l14 c14 k14;have b14:=F14.binds (ps:=["self","form","table","view"]) fun _ _ _ _ _ _ us hl=>by obtain⟨u0,u1,u2,u3,rfl⟩:=Gp hl; rfl
 have F15:=bE (st:=jg) l15 c15 k15;have b15:=F15.binds (ps:=["self","form"]) fun _ _ _ _ _ _ us hl=>by obtain⟨u0,u1,rfl⟩:=jZ hl; rfl
 have F16:=bE (st:=gI) l16 c16 k16;have b16:=F16.binds (ps:=["self","form"]) fun _ _ _ _ _ _ us hl=>by obtain⟨u0,u1,rfl⟩:=jZ hl; rfl
 have F17:=bE (st:=iu) l17 c17 k17;have b17:=F17.binds (ps:=["_law_table_here","_law_many"]) fun _ _ _ _ _ _ us hl=>by obtain⟨u0,u1,rfl⟩:=jZ hl; rfl
 have F18:=bE (st:=jU) l18 c18 k18;have b18:=F18.binds (ps:=["_law_x"]) fun _ _ _ _ _ _ us hl=>by obtain⟨u0,rfl⟩:=BW hl; rfl
 have F19:=bE (st:=iq) l19 c19 k19;have b19:=F19.binds (ps:=["_law_many","_law_rows_here"]) fun _ _ _ _ _ _ us hl=>by obtain⟨u0,u1,rfl⟩:=jZ hl; rfl
 have F20:=bE (st:=gA) l20 c20 k20;have b20:=F20.binds (ps:=["_law_kind_here","_law_x"]) fun _ _ _ _ _ _ us hl=>by obtain⟨u0,u1,rfl⟩:=jZ hl; rfl
 have F21:=bE (st:=jD) l21 c21 k21;have b21:=F21.binds (ps:=["_law_form_here","_law_many","_law_head","_law_tail"]) fun _ _ _ _ _ _ us hl=>by obtain⟨u0,u1,u2,u3,rfl⟩:=Gp hl; rfl
 have F22:=bE (st:=iL) l22 c22 k22;have b22:=F22.binds (ps:=["_law_form_here","_law_x","_law_many"]) fun _ _ _ _ _ _ us hl=>by obtain⟨u0,u1,u2,rfl⟩:=Cm hl; rfl
 have F23:=bE (st:=fJ) l23 c23 k23;have b23:=F23.binds (ps:=["_law_form_here"]) fun _ _ _ _ _ _ us hl=>by obtain⟨u0,rfl⟩:=BW hl; rfl
 have F24:=bE (st:=jb) l24 c24 k24;have b24:=F24.binds (ps:=["_law_step","_law_form_here","_law_extra","_law_x"]) fun _ _ _ _ _ _ us hl=>by obtain⟨u0,u1,u2,u3,rfl⟩:=Gp hl; rfl
 have F25:=bE (st:=jP) l25 c25 k25;have b25:=F25.binds (ps:=["_law_base","_law_k"]) fun _ _ _ _ _ _ us hl=>by obtain⟨u0,u1,rfl⟩:=jZ hl; rfl
 have F26:=bE (st:=gD) l26 c26 k26;have b26:=F26.binds (ps:=["_law_script","_law_k"]) fun _ _ _ _ _ _ us hl=>by obtain⟨u0,u1,rfl⟩:=jZ hl; rfl
 have F27:=bE (st:=iA) l27 c27 k27;have b27:=F27.binds (ps:=["self","form"]) fun _ _ _ _ _ _ us hl=>by obtain⟨u0,u1,rfl⟩:=jZ hl; rfl
 have F28:=bE (st:=fX) l28 c28 k28;have b28:=F28.binds (ps:=["self","form"]) fun _ _ _ _ _ _ us hl=>by obtain⟨u0,u1,rfl⟩:=jZ hl; rfl
 have F29:=bE (st:=i6) l29 c29 k29;have b29:=F29.binds (ps:=["self"]) fun _ _ _ _ _ _ us hl=>by obtain⟨u0,rfl⟩:=BW hl; rfl
 have F30:=bE (st:=gz) l30 c30 k30;have b30:=F30.binds (ps:=["self"]) fun _ _ _ _ _ _ us hl=>by obtain⟨u0,rfl⟩:=BW hl; rfl
 have F31:=bE (st:=eW) l31 c31 k31;have b31:=F31.binds (ps:=["_law_form_here","_law_nested_here","_law_xs"]) fun _ _ _ _ _ _ us hl=>by obtain⟨u0,u1,u2,rfl⟩:=Cm hl; rfl
 have F32:=bE (st:=jS) l32 c32 k32;have b32:=F32.binds (ps:=["_law_script","_law_k"]) fun _ _ _ _ _ _ us hl=>by obtain⟨u0,u1,rfl⟩:=jZ hl; rfl
 have F33:=bE (st:=je) l33 c33 k33;have b33:=F33.binds (ps:=["_law_form_here","_law_many","_law_script","_law_start","_law_most"]) fun _ _ _ _ _ _ us hl=>by obtain⟨u0,u1,u2,u3,u4,rfl⟩:=MA hl; rfl
 have F34:=bE (st:=jh) l34 c34 k34;have b34:=F34.binds (ps:=["_law_x"]) fun _ _ _ _ _ _ us hl=>by obtain⟨u0,rfl⟩:=BW hl; rfl
 have F35:=bE (st:=iD) l35 c35 k35;have b35:=F35.binds (ps:=["_law_x","_law_base","_law_deep"]) fun _ _ _ _ _ _ us hl=>by obtain⟨u0,u1,u2,rfl⟩:=Cm hl; rfl
 have F36:=bE (st:=iK) l36 c36 k36;have b36:=F36.binds (ps:=["_law_x","_law_base","_law_start","_law_many","_law_more","_law_deep"]) fun _ _ _ _ _ _ us hl=>by obtain⟨u0,u1,u2,u3,u4,u5,rfl⟩:=Nt hl; rfl
 have F37:=bE (st:=eJ) l37 c37 k37;have b37:=F37.binds (ps:=["_law_script","_law_some"]) fun _ _ _ _ _ _ us hl=>by obtain⟨u0,u1,rfl⟩:=jZ hl; rfl
 have F38:=bE (st:=uw) l38 c38 k38;have F39:=bE (st:=eY) l39 c39 k39;have b39:=F39.binds (ps:=["self","name"]) fun _ _ _ _ _ _ us hl=>by obtain⟨u0,u1,rfl⟩:=jZ hl; rfl
 have cl0:AG K Cl0:=⟨p0,q0,r0,s0⟩
 have cl1:AG K Cl1:=⟨p1,q1,r1,s1⟩
 have bL:sQ K "name" ["Unnest"]:=by
  intro c hc C hC;simp only [Qz,RA,or_false] at hc;rcases hc with rfl
  ·cases vT hC ac0; exact⟨cl0,n0_0⟩
 have lC:vP K f10 (.ref cL):=⟨_,_,_,_,l10,lc⟩
 refine⟨⟨cL,lh⟩,lt,R3 "law" "law" (nK uw) (fF uw) (ax uw) .none kV38 dc38 pm38 an38 cd38 ct38,fun s v=>.of_eq rfl,fun base kb _ bm=>?_⟩;have sA:=yx (P:=l.prog) (w:=w) (base:=base) ac0 ⟨m0,a39,i39,kp0⟩ cl0 (by intro g hg; simp only [Qz,RA,or_false] at hg; rcases hg with rfl; exact n0_0) F39 b39 (Sf X G ac0);have fam:=mD (P:=l.prog) (w:=w) (base:=base) F0 b0 (Sf X G a0) bq ur ie iJ aY bM we 20;have bQ:=fam;have okb_Step_got:=yO (P:=l.prog) (w:=w) (base:=base) (K:=K) (mg:=mg) (f:=f1);have oM:=bC F2 b2 (Sf X G a2) yk (cF.ok (yc (P:=l.prog) (w:=w) (base:=base) (f:=f2) aY));have okb_Unnest_got:=uF (P:=l.prog) (w:=w) (base:=base) (K:=K) (mg:=mg) (f:=f3) oM bM;have okb_Step_view_form:=o8 (P:=l.prog) (w:=w) (base:=base) (K:=K) (mg:=mg) (f:=f4);have gZ:=bC F5 b5 (Sf X G a5) yr (cF.ok (xY (P:=l.prog) (w:=w) (base:=base) (f:=f5) aY));have ju:=bC F6 b6 (Sf X G a6) Ao (cF.ok (zR (P:=l.prog) (w:=w) (base:=base) (f:=f6) ));have ik:=bC F7 b7 (Sf X G a7) yN (cF.ok (yh (P:=l.prog) (w:=w) (base:=base) (f:=f7) gZ mX));have okb_Unnest_view_form:=oz (P:=l.prog) (w:=w) (base:=base) (K:=K) (mg:=mg) (f:=f8) ju ik gZ bL bM Ed c_MOST_FIELDS;have okb_Step_put:=yy (P:=l.prog) (w:=w) (base:=base) (K:=K) (mg:=mg) (f:=f9);have my:=zJ F10 b10 (Sf X G a10) wZ (Fa.ok (wU (P:=l.prog) (w:=w) (base:=base) (f:=f10) aY eM (GA kb lh bm) lC fun _ z=>z));have uy:=bC F11 b11 (Sf X G a11) BG (cF.ok (Df (P:=l.prog) (w:=w) (base:=base) (f:=f11) qu));have oY:=bC F12 b12 (Sf X G a12) yH (cF.ok (yg (P:=l.prog) (w:=w) (base:=base) (f:=f12) uy my fZ));have nO:=bC F13 b13 (Sf X G a13) Ah (cF.ok (Ad (P:=l.prog) (w:=w) (base:=base) (f:=f13) qu aY));have okb_Unnest_put:=uH (P:=l.prog) (w:=w) (base:=base) (K:=K) (mg:=mg) (f:=f14) nO oY bM;have okb_Step_exact:=uX (P:=l.prog) (w:=w) (base:=base) (K:=K) (mg:=mg) (f:=f15);have okb_Unnest_exact:=rF (P:=l.prog) (w:=w) (base:=base) (K:=K) (mg:=mg) (f:=f16) ju ik bL;have eO:=bC F17 b17 (Sf X G a17) tM (cF.ok (tP (P:=l.prog) (w:=w) (base:=base) (f:=f17) eM fZ aY));have aC:=bC F18 b18 (Sf X G a18) xL (cF.ok (xn (P:=l.prog) (w:=w) (base:=base) (f:=f18) ));have bw:=bC F19 b19 (Sf X G a19) tD (cF.ok (sL (P:=l.prog) (w:=w) (base:=base) (f:=f19) aY eM fZ));have fam:=mz (P:=l.prog) (w:=w) (base:=base) F20 b20 (Sf X G a20) F21 b21 (Sf X G a21) F22 b22 (Sf X G a22) aC bw bM kO iJ aY bN 20;have gF:=fam.1;have dX:=fam.2.1;have fg:=fam.2.2;have dC:=bC F23 b23 (Sf X G a23) pD (cF.ok (pQ (P:=l.prog) (w:=w) (base:=base) (f:=f23) ));have fQ:dY l.prog w K mg base 21 "view_form" ["self","form"] [("Step",(aG bA 2 2)),("Unnest",(aG aR 2 5))]:=cB (MethAt.mono (bW (c := "Step") (m := "view_form") ac1 cl1 ⟨a4,i4,k4⟩ F4 b4 jR (cF.ok okb_Step_view_form)) (by decide)) aI (cB (MethAt.mono (bW (c := "Unnest") (m := "view_form") ac0 cl0 ⟨a8,i8,k8⟩ F8 b8 iY (cF.ok okb_Unnest_view_form)) (by decide)) aI (ir));have gL:dY l.prog w K mg base 21 "exact" ["self","form"] [("Step",(aG cp 2 2)),("Unnest",(aG aN 2 2))]:=cB (MethAt.mono (bW (c := "Step") (m := "exact") ac1 cl1 ⟨a15,i15,k15⟩ F15 b15 oB (cF.ok okb_Step_exact)) (by decide)) aI (cB (MethAt.mono (bW (c := "Unnest") (m := "exact") ac0 cl0 ⟨a16,i16,k16⟩ F16 b16 iV (cF.ok okb_Unnest_exact)) (by decide)) aI (ir));have iF:dY l.prog w K mg base 21 "got" ["self","form","table"] [("Step",(aG cA 3 3)),("Unnest",(aG bo 3 3))]:=cB (MethAt.mono (bW (c := "Step") (m := "got") ac1 cl1 ⟨a1,i1,k1⟩ F1 b1 ro (cF.ok okb_Step_got)) (by decide)) aI (cB (MethAt.mono (bW (c := "Unnest") (m := "got") ac0 cl0 ⟨a3,i3,k3⟩ F3 b3 oA (cF.ok okb_Unnest_got)) (by decide)) aI (ir));have iM:dY l.prog w K mg base 21 "put" ["self","form","table","view"] [("Step",(aG g9 4 4)),("Unnest",(aG de 4 6))]:=cB (MethAt.mono (bW (c := "Step") (m := "put") ac1 cl1 ⟨a9,i9,k9⟩ F9 b9 yT (cF.ok okb_Step_put)) (by decide)) aI (cB (MethAt.mono (bW (c := "Unnest") (m := "put") ac0 cl0 ⟨a14,i14,k14⟩ F14 b14 uW (cF.ok okb_Unnest_put)) (by decide)) aI (ir));have lu:=bC F24 b24 (Sf X G a24) uO (cF.ok (u9 (P:=l.prog) (w:=w) (base:=base) (f:=f24) dC fg eO bQ fQ gL iF iM bL bM));have bU:=bC F25 b25 (Sf X G a25) xo (cF.ok (xI (P:=l.prog) (w:=w) (base:=base) (f:=f25) bN));have cC:=bC F26 b26 (Sf X G a26) rH (cF.ok (rJ (P:=l.prog) (w:=w) (base:=base) (f:=f26) bM));have okb_Step_steady:=uc (P:=l.prog) (w:=w) (base:=base) (K:=K) (mg:=mg) (f:=f27);have iC:dY l.prog w K mg base 3 "exact" ["self","form"] [("Unnest",(aG aN 2 2))]:=cB (MethAt.mono (bW (c := "Unnest") (m := "exact") ac0 cl0 ⟨a16,i16,k16⟩ F16 b16 iV (cF.ok okb_Unnest_exact)) (by decide)) aI (ir);have okb_Unnest_steady:=qH (P:=l.prog) (w:=w) (base:=base) (K:=K) (mg:=mg) (f:=f28) iC;have okb_Step_words:=uN (P:=l.prog) (w:=w) (base:=base) (K:=K) (mg:=mg) (f:=f29);have okb_Unnest_words:=rE (P:=l.prog) (w:=w) (base:=base) (K:=K) (mg:=mg) (f:=f30) bL;have gE:=bC F31 b31 (Sf X G a31) oO (cF.ok (oJ (P:=l.prog) (w:=w) (base:=base) (f:=f31) dX bw fZ bM));have dJ:=bC F32 b32 (Sf X G a32) wW (cF.ok (xq (P:=l.prog) (w:=w) (base:=base) (f:=f32) cC aC));have kZ:=bC F33 b33 (Sf X G a33) uP (cF.ok (uL (P:=l.prog) (w:=w) (base:=base) (f:=f33) dJ dX aC bw bN DW kO bM));have dg:=bC F34 b34 (Sf X G a34) uU (cF.ok (uM (P:=l.prog) (w:=w) (base:=base) (f:=f34) bN bM aY eM fZ));have fam:=oH (P:=l.prog) (w:=w) (base:=base) F35 b35 (Sf X G a35) F36 b36 (Sf X G a36) dg aC bU bN aY 20;have mH:=fam.1;have fh:=fam.2;have fY:=bC F37 b37 (Sf X G a37) oy (cF.ok (ox (P:=l.prog) (w:=w) (base:=base) (f:=f37) dJ cC fh aC bU));have iU:dY l.prog w K mg base 22 "view_form" ["self","form"] [("Step",(aG bA 2 2)),("Unnest",(aG aR 2 5))]:=cB (MethAt.mono (bW (c := "Step") (m := "view_form") ac1 cl1 ⟨a4,i4,k4⟩ F4 b4 jR (cF.ok okb_Step_view_form)) (by decide)) aI (cB (MethAt.mono (bW (c := "Unnest") (m := "view_form") ac0 cl0 ⟨a8,i8,k8⟩ F8 b8 iY (cF.ok okb_Unnest_view_form)) (by decide)) aI (ir));have jY:dY l.prog w K mg base 22 "words" ["self"] [("Step",(aG fG 1 1)),("Unnest",(aG cV 1 1))]:=cB (MethAt.mono (bW (c := "Step") (m := "words") ac1 cl1 ⟨a29,i29,k29⟩ F29 b29 uG (cF.ok okb_Step_words)) (by decide)) aI (cB (MethAt.mono (bW (c := "Unnest") (m := "words") ac0 cl0 ⟨a30,i30,k30⟩ F30 b30 rB (cF.ok okb_Unnest_words)) (by decide)) aI (ir));have jW:dY l.prog w K mg base 22 "exact" ["self","form"] [("Step",(aG cp 2 2)),("Unnest",(aG aN 2 2))]:=cB (MethAt.mono (bW (c := "Step") (m := "exact") ac1 cl1 ⟨a15,i15,k15⟩ F15 b15 oB (cF.ok okb_Step_exact)) (by decide)) aI (cB (MethAt.mono (bW (c := "Unnest") (m := "exact") ac0 cl0 ⟨a16,i16,k16⟩ F16 b16 iV (cF.ok okb_Unnest_exact)) (by decide)) aI (ir));have jG:dY l.prog w K mg base 22 "steady" ["self","form"] [("Step",(aG dA 2 2)),("Unnest",(aG bV 2 2))]:=cB (MethAt.mono (bW (c := "Step") (m := "steady") ac1 cl1 ⟨a27,i27,k27⟩ F27 b27 uj (cF.ok okb_Step_steady)) (by decide)) aI (cB (MethAt.mono (bW (c := "Unnest") (m := "steady") ac0 cl0 ⟨a28,i28,k28⟩ F28 b28 qe (cF.ok okb_Unnest_steady)) (by decide)) aI (ir));have lm:dY l.prog w K mg base 22 "got" ["self","form","table"] [("Step",(aG cA 3 3)),("Unnest",(aG bo 3 3))]:=cB (MethAt.mono (bW (c := "Step") (m := "got") ac1 cl1 ⟨a1,i1,k1⟩ F1 b1 ro (cF.ok okb_Step_got)) (by decide)) aI (cB (MethAt.mono (bW (c := "Unnest") (m := "got") ac0 cl0 ⟨a3,i3,k3⟩ F3 b3 oA (cF.ok okb_Unnest_got)) (by decide)) aI (ir));exact Jq (P:=l.prog) (w:=w) (base:=base) F38 aC dJ fY dC kZ eO gE bQ bU cC lu iU jY jW jG lm sA bM bN bq ie
theorem walk {l:Sb} {q:S0} {loose:List Str} {XP:(Str->Option SY)->S5->Prop} {YP:SZ->S5->Prop} {d:DefRec} {K:Params->RL} {T:S3} (hn:l.most=some 63) (hdf:d.params.defaults=[])
  (hY:∀ (w:SZ) (h:S5),YP w h->(K w.params).In h/\h.get? T=some (R9 #[]))
  (F:∀ (w:SZ) (mg:Str->Option SY) (fa:S3) (h:S5),(K w.params).In h->h.Ns S8 mg->mg d.name=some (.ref fa) ->
   (∃ c,Se (K w.params) c T=true)/\(K w.params).lookup T=none/\∃ fd:TK,(∀ (s:Tc) (u:SY),TL s fd ⟨[u],[]⟩ [("_law_script",u)])/\∀ base:S5,(K w.params).In base->base.Ns S8 mg->Ac mg base->jI l.prog w (K w.params) mg base (oC l.prog w) 23 fa fd ["_law_script"] (@Di (xc T ⟨23,34,23,56⟩ ((("sorted_by":Str) ++ ".<locals>.") ++ "<lambda>")) (K w.params) 1 (aG tN 1 11)))
  (math:∀ ns:List Int,ns.length<=63->aG tN 1 11 [.lst (ns.map .int)]=.ok (.bl true)):PySem.W.WalkO q loose XP YP l.row.toRowW d [] (fun f vs=>PySem.call f vs) :=
 DS (n:=63) (k:=23) (x := "_law_script") (T:=T) (CX:=fun w=>oC l.prog w) (sp:=fun w=>@Di (xc T ⟨23,34,23,56⟩ ((("sorted_by":Str) ++ ".<locals>.") ++ "<lambda>")) (K w.params) 1 (aG tN 1 11)) hn (by decide) hdf ⟨rfl,by decide,by decide⟩ hY F
  (fun w H a ns hl hT hS=>⟨[],[.lst (ns.map .int)],rfl,⟨hT,fun a h=>nomatch h⟩,by rw [Gc]; exact bB.mpr ⟨.ref a,[],rfl,cI.mpr ⟨a,_,rfl,hS,wz ns⟩,cZ.mpr rfl⟩,by rw [math ns hl]; exact fun v H' sm d=>⟨lB.mp d,sm⟩⟩) fun _ _ _ _ _ z=>by obtain⟨_,_,_,_,_,_,_,_,_,_,_,_,_,z⟩:=z; exact z
end Tk42
namespace Tk42
open PySem PySem.Spec L2 TG TD T4
local macro_rules|`(‹$x›)=>do if x.raw.isOfKind `num then Lean.Macro.throwUnsupported else `(some (S.val $x))
local macro_rules
 | `(tactic| simp! only [$xs,*])=>`(tactic| simp only [dE,wv,qX,vU,iZ,eU,ge_0,Cv,qT,BO,qR,oa,qb,qi,B7,B6,BF,C7,C3,qB,qc,vH,kC,om,qC,nG,vS,qJ,pV,nw,qa,kJ,p9,kK,j6,jt,jv,qP,nU,jm,nY,kQ,nF,nM,iy,n5,ky,oX,nJ,ku,jj,nI,nX,Cy,vd,BI,Ct,CM,qL,nZ,qg,og,nB,Cg,CB,Rf,Rg,Pq,PX,Qb,Qo,K0,env0,List.replicate,QM,Pw,QG,Nat.reduceAdd,Nat.reduceSub,Pp,P0,qD,qK,wt,pY,qy,qq,jo,p4,vv,vV,vB,qF,kH,kj,kB,kn,kz,kA,v5,vY,v7,vL,wx,v4,ko,kG,gQ,hV,pU,js,gR,gU,gS,lY,mF,hX,gY,kr,kI,nS,ny,kR,nH,qQ,pZ,ou,n0,gN,if_true,if_false,Rh,Ri,P9,$xs,*])
theorem gm (j:Int) (h:0 < j:=by decide):∀ i:Int,dD (.int i) (.int j)=some (.int (i%j)):=fun i=>iP (i:=i) h
theorem gd (j:Int) (h:0 < j:=by decide) (h':j < 10 ^ 200:=by decide):∀ i:Int,eP (.int i) (.int j)=some (.int (i / j)):=fun i=>oP (i:=i) h h'
inductive Kd where
 | num (lo hi:Int) | wrd (ws:List Str)
def Kd.d:Kd->D
 | .num lo hi=>.tup [.str "number",.int lo,.int hi]
 | .wrd ws=>.tup [.str "word",.tup (ws.map .str)]
def Kd.gd:Kd->Prop
 | .num lo hi=>lo<=hi
 | .wrd ws=>ws≠[]/\ws.length<=100
def Kd.b:Kd->Bool
 | .num _ _=>true
 | .wrd _=>false
abbrev KL:=List (Str×Kd)
def kf (p:Str×Kd):D:=.tup [.str p.1,p.2.d]
abbrev fr (k:KL) (r:List (Str×D)):D:=.tup [.tup (k.map kf),.tup (r.map fld)]
def toD (p:Str×Kd):Str×D:=(p.1,p.2.d)
theorem zM (k:KL):k.map kf=(k.map toD).map fld:=by rw [Q0]; rfl
theorem Iw:(("number":Str)==("number":Str))=true:=by decide +kernel
theorem FD:(("word":Str)==("word":Str))=true:=by decide +kernel
theorem IC:(("word":Str)==("number":Str))=false:=by decide +kernel
theorem Iy:(("rows":Str)==("number":Str))=false:=by decide +kernel
theorem G7:(("rows":Str)==("word":Str))=false:=by decide +kernel
def KG:Nat->D->Prop
 | 0,d=>∃ c:Kd,c.gd/\d=c.d
 | n+1,d=>(∃ c:Kd,c.gd/\d=c.d)\/∃ (ks:KL) (qs:List (Str×D)) (b:Bool),d=.tup [.str "rows",fr ks qs,.bl b]/\1<=ks.length/\ks.length<=8/\(∀ p∈ks,p.2.gd)/\qs.length<=8/\∀ q∈qs,KG n q.2
theorem FQ (ws:List Str) (w:Str):uS ws w≠[]:=by
 unfold uS;split
 ·rename_i h;intro z;rw [z] at h;simp at h
 ·simp
theorem Ku (ws:List Str) (h:ws.Nodup) (hl:ws.length < 64):∃ us:List Str,fT [.lst (ws.map .str)]=some (.lst (us.map .str))/\us.Perm ws:=by
 have pz:∀ zs:List D,zs.Perm (ws.map D.str)->∃ us:List Str,zs=us.map .str/\us.Perm ws:=fun zs p=>by
  have e:zs=(zs.map fun z=>match z with | .str w=>w | _ => "").map .str:=by
   rw [Q0]
   conv=>lhs; rw [<- RB zs]
   refine Qp fun z hz=>?_;obtain⟨w,_,rfl⟩:=List.mem_map.mp (p.mem_iff.mp hz);rfl
  refine⟨_,e,?_⟩;have q:=p.map fun z:D=>match z with | .str w=>w | _=>("":Str)
  rw [Q0] at q;have e2:ws.map ((fun z:D=>match z with | .str w=>w | _=>("":Str)) ∘ D.str)=ws:=by
   conv=>rhs; rw [<- RB ws]
   exact Qp fun _ _=>rfl
  rw [e2] at q;exact q
 have fin:∀ key:D->List D,∃ us:List Str,some (D.lst (iX key (ws.map .str)))=some (.lst (us.map .str))/\us.Perm ws:=fun key=>by
  obtain⟨us,e,q⟩:=pz _ (gf key (ws.map .str));exact⟨us,by rw [e],q⟩
 show ∃ us,qW (ws.map .str)=_/\_;unfold qW;by_cases a:Iz (ws.map .str)
 ·rw [if_pos a]; exact fin _
 ·have b:KW (ws.map .str):=by
   refine⟨by rw [Pr]; exact hl,false,fun x hx=>?_,?_⟩
   ·obtain⟨w,_,rfl⟩:=List.mem_map.mp hx;exact .str w .nil
   ·rw [QY];refine h.imp fun hne e=>hne ?_;have e:[D.str _]=[D.str _]:=e;injection e with e _;injection e
  rw [if_neg a,if_pos b]; exact fin _
theorem t7 (x:Int) (h0:0<=x) (h1:x < 2147483700):∃ c:Kd,aG dq 1 8 [.int x]=.ok c.d/\c.gd:=by
 have g3:=gm 3;have g4:=gm 4;have g26:=gm 26;have d3:=gd 3;have d12:=gd 12;have d78:=gd 78;have d2028:=gd 2028;have p7:rC (.int x) (.int 7)=some (.int (x ^ 7)):=Ag x 7 (by decide) ‹0›;have pb:=Kp;have gp:=fun i=>iP (i:=i) (show (0:Int) < Hz by omega);rw [oS]; unfold dq;by_cases h:x%3 < 2
 ·have h':decide (x%3 < 2)=true:=decide_eq_true h;obtain⟨v,hv,e1⟩:=OD (.int 0) (.int (-3)) (.int (0 - x ^ 7%Hz)) (.int (x ^ 7%Hz)) (x / 3%4) ‹0› ‹0›;obtain⟨lo,rfl⟩:∃ lo:Int,v=.int lo:=by
   simp only [Qz,RA,or_false] at hv;rcases hv with rfl | rfl | rfl | rfl <;> exact⟨_,rfl⟩
  obtain⟨w,w0,e2⟩:∃ w:Int,0<=w/\aW (.lst [.int 0,.int 1,.int 6,.int Hz]) (.int (x / 12%4))=some (.int w):=by
   rcases(show x / 12%4=0\/x / 12%4=1\/x / 12%4=2\/x / 12%4=3 by omega) with z | z | z | z <;> rw [z]
   ·exact⟨0,by decide,rfl⟩
   ·exact⟨1,by decide,rfl⟩
   ·exact⟨6,by decide,rfl⟩
   ·exact⟨Hz,by omega,rfl⟩
  refine⟨.num lo (lo+w),?_,by show lo<=lo+w; omega⟩;unfold Kd.d;simp! only [g3,h',p7,Iu,gp,MC,d3,g4,e1,d12,e2,Ib]
 ·have h':decide (x%3 < 2)=false:=decide_eq_false h;have LL:(("abcdefghijklmnopqrstuvwxyz":Str)).length=26:=by decide +kernel
  have L0:(("":Str)).length<=1000:=by decide +kernel
  generalize hL:("abcdefghijklmnopqrstuvwxyz":Str)=L at LL;obtain⟨one,ho,e1⟩:=AY L ‹0› (x / 3%26) ‹0› ‹0›;obtain⟨oth,hq,e2⟩:=AY L ‹0› (x / 78%26) ‹0› ‹0›;have a1:=m9 one oth ‹0› ‹0›;have a2:=m9 oth one ‹0› ‹0›;have a3:=m9 one one ‹0› ‹0›;have m1:=Ji (x:=one) (n:=8) (by decide) (by decide) ‹0›;have m2:=Ji (x:=oth) (n:=3) (by decide) (by decide) ‹0›;have r8:n9 [.int 8]=some (e7 0 8):=kc 8 (by decide);generalize hW:[D.str "",.str one,.str oth,.str (one++oth),.str (oth++one),.str (mi one 8),.str (one++one),.str (mi oth 3)]=W;have W8:W.length=8:=by rw [<- hW]; rfl
  have Ws:∀ d∈W,∃ w:Str,d=.str w:=by
   rw [<- hW];intro d hd;simp only [Qz,RA,or_false] at hd;rcases hd with rfl | rfl | rfl | rfl | rfl | rfl | rfl | rfl <;> exact⟨_,rfl⟩
  obtain⟨T,hT⟩:∃ T:cw,T=(aJ (kM (gl (af (fC (.int 8)) (au))) (gN 7) (aJ (j3 (fB (f2 mj (f2 BA (f2 Gg (f2 eP (ah 0) (fC (.int 2028))) (ah 7)) (fC (.int 1))) (fC (.int 1)))) (pF 6 (f2 aW (ah 5) (ah 7)) (fC (.bl true))) (cG)) (fO [7] cG))) (aJ (j3 (md [6] (fB (f2 mj (fL wa (af (ah 6) (au))) (fC (.int 0))))) (pF 6 (ah 3) (fC (.bl true))) (cG)) (iO 6 (bG (cy (af (fC (.str "word")) (af (fL cQ (af (fL fT (af (fL qG (af (ah 6) (au))) (au))) (au))) (au)))))))):=⟨_,rfl⟩
  have fin:∀ ws:List Str,ws.Nodup->ws.length<=10->ws≠[]->∃ c:Kd,iO 6 (bG (cy (af (fC (.str "word")) (af (fL cQ (af (fL fT (af (fL qG (af (ah 6) (au))) (au))) (au))) (au))))) K0 [‹.int x›,none,none,‹.str one›,none,‹.lst W›,some (.own (wd ws)),none]=.ok c.d/\c.gd:=fun ws nd hl wn=>by
   obtain⟨us,ez,pz⟩:=Ku ws nd ‹0›;refine⟨.wrd us,?_,⟨fun z=>wn (by rw [z] at pz; exact pz.symm.eq_nil),by rw [pz.length_eq]; omega⟩⟩;unfold Kd.d;simp! only [Fu,ez,yf]
  have key:∃ c:Kd,T K0 [‹.int x›,none,none,‹.str one›,none,‹.lst W›,some (.own (.dct [] [])),none]=.ok c.d/\c.gd:=by
   rw [hT,iy,jj];simp! only [r8];refine fA (Q:=fun z=>∃ c:Kd,z=.ok c.d/\c.gd) (fun i ρ=>∃ ws:List Str,ws.Nodup/\ws.length<=i/\ρ=[‹.int x›,none,none,‹.str one›,none,‹.lst W›,some (.own (wd ws)),none]) ?_ ⟨[],P6,Ph _,rfl⟩ ?_
   ·rintro i d ρ kk hd ⟨ws,nd,hl,rfl⟩;have hi:=cM hd;rw [cX] at hi;have hdi:d=.int (i:Int):=by
     rw [kT,PF,Qu hi] at hd;cases hd; simp
    subst hdi;obtain⟨w,ew⟩:=Ws (W[i]'‹0›) (QX _);have ix:aW (.lst W) (.int (i:Int))=some (.str w):=by
     rw [Oa,tT ‹0›,ew]
    have sh:=JN (x / 2028) i;cases hb:(Builtin.bitAnd (x / 2028 / 2 ^ i) 1==1) with
    | false =>
     refine⟨_,_,rfl,⟨ws,nd,by omega,rfl⟩,?_⟩;simp! only [d2028,sh,A1,hb]
    | true =>
     refine⟨_,_,rfl,⟨uS ws w,Bw w nd,by have:=yW ws w; omega,rfl⟩,?_⟩;have pk:=fun k:Ks=>By (i:=6) (fk:=f2 aW (ah 5) (ah 7)) (fv:=fC (.bl true)) (k:=k) (ρ:=[‹.int x›,none,none,‹.str one›,none,‹.lst W›,some (.own (wd ws)),‹.int (i:Int)›]) (al:=Cu ws) (q:=.inr w) (d:=.str w) (v:=.bl true) rfl (by simp! only [ix]) rfl rfl (by simp; omega);simp! only [d2028,sh,A1,hb,pk,EQ]
   ·rintro ρ' ⟨ws,nd,hl,rfl⟩;rw [cX] at hl;have pt:md [6] (fB (f2 mj (fL wa (af (ah 6) (au))) (fC (.int 0)))) [‹.int x›,none,none,‹.str one›,none,‹.lst W›,some (.own (wd ws)),none]=.ok (((ws.length:Int))==0):=by
     simp! only [mB,DV,G2]
    dsimp only;rw [iy,oX,pt,qX];cases hb:((ws.length:Int)==0) with
    | false=>exact fin ws nd ‹0› fun z=>by rw [z] at hb; cases hb
    | true =>
     have pk:=fun k:Ks=>By (i:=6) (fk:=ah 3) (fv:=fC (.bl true)) (k:=k) (ρ:=[‹.int x›,none,none,‹.str one›,none,‹.lst W›,some (.own (wd ws)),none]) (al:=Cu ws) (q:=.inr one) (d:=.str one) (v:=.bl true) rfl rfl rfl rfl (by simp; omega);rw [if_pos rfl,pk,EQ];exact fin (uS ws one) (Bw one nd) (by have:=yW ws one; omega) (FQ ws one)
  obtain⟨d,ed,fd⟩:=key;have mW:pI W=some (.lst W):=IK ‹0›;refine⟨d,?_,fd⟩;rw [<- hT];simp only [K0] at ed;simp! only [hL,g3,h',d3,g26,e1,d78,e2,a1,a2,a3,m1,m2,hW,mW,wG,ed]
theorem A6 {b st:Int} {L:List Str} {nm:Str} (h:∀ (j:Nat) (w:Str),L[j]?=some w->yD b (st+(j:Int)) w) (hn:yD b (st+(L.length:Int)) nm):∀ (j:Nat) (w:Str),(L++[nm])[j]?=some w->yD b (st+(j:Int)) w:=fun j w e=>by
 rw [List.getElem?_append] at e;split at e
 ·exact h j w e
 ·rename_i hj
  have:j - L.length=0:=by
   have:=cM e
   simp at this; omega
  rw [this] at e;cases e;rw [show j=L.length by omega]; exact hn
theorem Bx (dp g:Nat) (hk:∀ x b:Int,0<=x->x < 2147483700->0<=b->∃ d,bd g [.int x,.int b,.int dp]=.ok d/\KG dp d) (x b st:Int) (m r:Nat) (h0:0<=x) (h1:x < 2147483700) (hb:0<=b) (hs:0<=st) (hm:m<=8) (hr:r<=8) :
  ∃ (ks:KL) (qs:List (Str×D)),aP (g+1) [.int x,.int b,.int st,.int m,.int r,.int dp]=.ok (fr ks qs)/\ks.length=m/\qs.length=r/\(∀ p∈ks,p.2.gd)/\(∀ q∈qs,KG dp q.2)/\∀ (j:Nat) (w:Str),(ks.map (·.1)++qs.map (·.1))[j]?=some w->yD b (st+(j:Int)) w:=by
 rw [gV,JR]; unfold jT;have rn:n9 [.int ((m:Int)+(r:Int))]=some (e7 0 (m+r)):=by
  rw [show ((m:Int)+(r:Int))=((m+r:Nat):Int) by omega];exact kc (m+r) ‹0›
 obtain⟨T,hT⟩:∃ T:cw,T=iO 7 (iO 6 (bG (cy (af (fL cQ (af (ah 6) (au))) (af (fL cQ (af (ah 7) (au))) (au)))))):=⟨_,rfl⟩
 rw [<- hT];simp! only [JW,rn];refine fA (Q:=fun z=>∃ (ks:KL) (qs:List (Str×D)),z=.ok (fr ks qs)/\ks.length=m/\qs.length=r/\(∀ p∈ks,p.2.gd)/\(∀ q∈qs,KG dp q.2)/\∀ (j:Nat) (w:Str),(ks.map (·.1)++qs.map (·.1))[j]?=some w->yD b (st+(j:Int)) w)
  (fun i ρ=>∃ (y:Int) (ks:KL) (qs:List (Str×D)),0<=y/\y < 2147483700/\ks.length=min i m/\qs.length=i - m/\(∀ p∈ks,p.2.gd)/\(∀ q∈qs,KG dp q.2)/\(∀ (j:Nat) (w:Str),(ks.map (·.1)++qs.map (·.1))[j]?=some w->yD b (st+(j:Int)) w) /\
   ρ=[‹.int y›,‹.int b›,‹.int st›,‹.int m›,‹.int r›,‹.int dp›,some (.own (.lst (ks.map kf))),some (.own (.lst (qs.map fld))),none]) ?_ ⟨x,[],[],h0,h1,by simp,by simp,(fun _ h=>nomatch h),(fun _ h=>nomatch h),(fun j w h=>by simp at h),rfl⟩ ?_
 ·rintro i d ρ kk hd ⟨y,ps,qs,y0,y1,lp,lq,fp,fq,fn,rfl⟩;have hi:=cM hd;rw [cX] at hi;have hdi:d=.int (i:Int):=by
   rw [kT,PF,Qu hi] at hd;cases hd; simp
  subst hdi;obtain⟨y',y0',y1',ey⟩:=jd y y0 y1;obtain⟨nm,en,nP⟩:=xi b (st+(i:Int)) hb ‹0›;by_cases h:i < m
  ·have h':decide ((i:Int) < (m:Int))=true:=decide_eq_true ‹0›;obtain⟨c,ek,ck⟩:=t7 y' y0' ‹0›;refine⟨_,_,rfl,⟨y',ps++[(nm,c)],qs,y0',by omega,by rw [PK,PR]; omega,by omega,fun p hp=>?_,fq,?_,rfl⟩,?_⟩
   ·rcases List.mem_append.mp hp with z | z
    ·exact fp p z
    ·rw [Q5] at z; subst z; exact ck
   ·have q0:qs=[]:=List.length_eq_zero_iff.mp ‹0›;subst q0;rw [PX,Pw] at fn ⊢;rw [Qq];exact A6 fn (by rw [Pr,lp,Q7 ‹0›]; exact nP)
   ·have ap:gb (ps.map kf) [.tup [.str nm,c.d]]=some ((ps++[(nm,c)]).map kf):=by
     rw [lx (by rw [Pr]; omega),Qq]; rfl
    have sm:=fun K:Ks=>kY 6 gb (af (cy (af (fR (aG bT 2 7) (af (ah 1) (af (f2 cj (ah 2) (ah 8)) (au)))) (af (fR (aG dq 1 8) (af (ah 0) (au))) (au)))) (au)) K [‹.int y'›,‹.int b›,‹.int st›,‹.int m›,‹.int r›,‹.int dp›,some (.own (.lst (ps.map kf))),some (.own (.lst (qs.map fld))),‹.int i›] (xs:=ps.map kf) rfl;generalize (ps++[(nm,c)]).map kf=Y at ap ⊢;simp! only [ey,h',sm,en,ek,yf,ap]
  ·have h':decide ((i:Int) < (m:Int))=false:=decide_eq_false ‹0›;obtain⟨k,ek,fk⟩:=hk y' b y0' ‹0› hb;refine⟨_,_,rfl,⟨y',ps,qs++[(nm,k)],y0',by omega,by omega,by rw [PK,PR]; omega,fp,fun p hp=>?_,?_,rfl⟩,?_⟩
   ·rcases List.mem_append.mp hp with z | z
    ·exact fq p z
    ·rw [Q5] at z; subst z; exact fk
   ·rw [Qq,<- Qx];exact A6 fn (by rw [PK,Pr,Pr,lp,lq,show min i m+(i - m)=i by omega]; exact nP)
   ·have ap:gb (qs.map fld) [.tup [.str nm,k]]=some ((qs++[(nm,k)]).map fld):=by
     rw [lx (by rw [Pr]; omega),Qq]; rfl
    have sm:=fun K:Ks=>kY 7 gb (af (cy (af (fR (aG bT 2 7) (af (ah 1) (af (f2 cj (ah 2) (ah 8)) (au)))) (af (fR (bd g) (af (ah 0) (af (ah 1) (af (ah 5) (au))))) (au)))) (au)) K [‹.int y'›,‹.int b›,‹.int st›,‹.int m›,‹.int r›,‹.int dp›,some (.own (.lst (ps.map kf))),some (.own (.lst (qs.map fld))),‹.int i›] (xs:=qs.map fld) rfl;generalize (qs++[(nm,k)]).map fld=Y at ap ⊢;simp! only [ey,h',sm,en,ek,yf,ap]
 ·rintro ρ' ⟨y,ps,qs,y0,y1,lp,lq,fp,fq,fn,rfl⟩;rw [cX] at lp lq;refine⟨ps,qs,?_,by omega,by omega,fp,fq,fn⟩;rw [hT];simp! only [yf]
theorem G3:∀ (dp g:Nat),2*dp+1<=g->∀ x b:Int,0<=x->x < 2147483700->0<=b->∃ d,bd g [.int x,.int b,.int dp]=.ok d/\KG dp d:=by
 intro dp
 induction dp with
 | zero =>
  intro g hg x b h0 h1 hb;obtain⟨g,rfl⟩:∃ g',g=g'+1:=⟨g - 1,by omega⟩
  have d3:=gd 3;obtain⟨c,e,f⟩:=t7 (x / 3) ‹0› ‹0›;refine⟨c.d,?_,c,f,rfl⟩;rw [fI,qO]; unfold iB;have z:(((0:Nat):Int)==0)=true:=rfl;simp! only [z,d3,e]
 | succ dp ih =>
  intro g hg x b h0 h1 hb;obtain⟨g,rfl⟩:∃ g',g=g'+1+1:=⟨g - 2,by omega⟩
  have g2:=gm 2;have g3:=gm 3;have g12:=gm 12;have d3:=gd 3;have d6:=gd 6;have d18:=gd 18;have d36:=gd 36;have z:(((dp+1:Nat):Int)==0)=false:=by simp; omega
  rw [fI,qO]; unfold iB;by_cases h:x%3 < 2
  ·have h':decide (x%3 < 2)=true:=decide_eq_true h;obtain⟨c,e,f⟩:=t7 (x / 3) ‹0› ‹0›;refine⟨c.d,?_,.inl ⟨c,f,rfl⟩⟩;simp! only [z,g3,h',d3,e]
  ·have h':decide (x%3 < 2)=false:=decide_eq_false h;obtain⟨m,hm,hm8,m1⟩:∃ m:Nat,1+x / 3%2=(m:Int)/\m<=8/\1<=m:=⟨(1+x / 3%2).toNat,by omega,by omega,by omega⟩
   obtain⟨r,hr,hr8⟩:∃ m:Nat,x / 6%3=(m:Int)/\m<=8:=⟨(x / 6%3).toNat,by omega,by omega⟩
   have hd:((dp+1:Nat):Int) - 1=(dp:Int):=(by omega);obtain⟨ps,qs,e,l1,l2,F1,F2,_⟩:=Bx dp g (ih g ‹0›) (x / 3) b (x / 36%12) m r ‹0› ‹0› hb ‹0› hm8 hr8;refine⟨.tup [.str "rows",fr ps qs,.bl (x / 18%2==1)],?_,.inr ⟨ps,qs,_,rfl,by omega,by omega,F1,by omega,F2⟩⟩;simp! only [z,g3,h',d3,d36,g12,g2,d6,hm,hr,hd,e,d18,Ib]
theorem sj (dp:Nat) (hd:dp<=3) (x b st:Int) (m r:Nat) (h0:0<=x) (h1:x < 2147483700) (hb:0<=b) (hs:0<=st) (hm:m<=8) (hr:r<=8) :
  ∃ (ks:KL) (qs:List (Str×D)),aP 20 [.int x,.int b,.int st,.int m,.int r,.int dp]=.ok (fr ks qs)/\ks.length=m/\qs.length=r/\(∀ p∈ks,p.2.gd)/\(∀ q∈qs,KG dp q.2)/\∀ (j:Nat) (w:Str),(ks.map (·.1)++qs.map (·.1))[j]?=some w->yD b (st+(j:Int)) w :=
 Bx dp 19 (G3 dp 19 ‹0›) x b st m r h0 h1 hb hs hm hr
theorem qA {σ:List Bool} {kl:Nat} (h0:σ≠[]) (hl:kl=σ.length) (rows:List (List D)) (hs:∀ r∈rows,Sh σ (r.take kl)) (hn:rows.length < 64):∃ t:List (List D),aG bi 2 4 [.int kl,.lst (rows.map .tup)]=.ok (.tup (t.map .tup))/\zY kl t/\(∀ r∈t,r∈rows)/\t.length<=rows.length/\∀ r∈rows,∃ r'∈t,r'.take kl=r.take kl:=by
 obtain⟨T,hT⟩:∃ T:cw,T=(iO 2 (bG (fL cQ (af (kP [none,some 2] (bZ (fL fT (af (fL nh (af (ah 2) (au))) (au)))) (gN 0) (dZ) (f2 Ae (ah 1) (ah 0))) (au))))):=⟨_,rfl⟩
 rw [eR]; unfold bi;rw [<- hT];simp! only [wG];refine fA (Q:=fun z=>∃ t:List (List D),z=.ok (.tup (t.map .tup))/\zY kl t/\(∀ r∈t,r∈rows)/\t.length<=rows.length/\∀ r∈rows,∃ r'∈t,r'.take kl=r.take kl) (fun i ρ=>∃ al:List (List Key×D),(al.map (·.1)).Nodup/\al.length<=i/\(∀ r∈rows.take i,∃ q∈al.map (·.1),q.map bz=r.take kl)/\(∀ p∈al,∃ r∈rows,p.2=.tup r/\r.take kl=p.1.map bz)/\ρ=[‹.int kl›,‹.lst (rows.map .tup)›,some (.own (dh al)),none]) ?_ ⟨[],P6,Ph _,(fun r h=>by rw [Qc] at h; cases h),(fun _ h=>nomatch h),rfl⟩ ?_
 ·rintro i d ρ kk hd ⟨al,nd,ll,cv,hp,rfl⟩;have hi:=cM hd;rw [Pr] at hi;rw [PF,Qj hi] at hd;cases hd;have rm:rows[i]∈rows:=QX hi;obtain⟨q,eq⟩:=rV (hs _ rm);have ct:cutD rows[i] none (some (kl:Int))=q.map bz:=by rw [mZ,eq]
  refine⟨_,_,rfl,⟨ib al q (.tup rows[i]),Hf _ _ nd,by have:=Eo al q (.tup rows[i]); omega,fun r hr=>?_,fun p h=>?_,rfl⟩,?_⟩
  ·rw [qm];rw [RC hi] at hr;rcases List.mem_append.mp hr with z | z
   ·obtain⟨q',h1,h2⟩:=cv r z;refine⟨q',?_,h2⟩;split
    ·exact h1
    ·exact O8 _ h1
   ·rw [List.mem_singleton.mp z];refine⟨q,?_,eq.symm⟩;split
    ·rename_i h; exact h
    ·exact Pj _ O6
  ·rcases Fh h with z | z
   ·exact hp p z
   ·subst z; exact⟨_,rm,rfl,eq⟩
  ·have pd:=fun K:Ks=>A3 (i:=2) (fk:=bK (ah 3) (bj) (cE (ah 0))) (fv:=ah 3) (k:=K) (ρ:=[‹.int kl›,‹.lst (rows.map .tup)›,some (.own (dh al)),‹.tup rows[i]›]) (al:=al) (q:=q) (v:=.tup rows[i]) rfl (by simp! only [ct]) rfl ‹0›;generalize dh (ib al q (.tup rows[i]))=Y at pd ⊢;generalize dh al=Z at pd ⊢;simp! only [pd]
 ·rintro ρ' ⟨al,nd,ll,cv,hp,rfl⟩;rw [Pr] at ll;have hsk:∀ p∈al,Sh σ (p.1.map bz):=fun p h=>by
   obtain⟨r,hr,_,e⟩:=hp p h;rw [<- e]; exact hs r hr
  obtain⟨es,ri⟩:=Bt nd hsk h0 ‹0›;have pm:=gf eD (encK al);have lt:=x9 al;generalize iX eD (encK al)=W at es ri pm;have wl:W.length=al.length:=by rw [pm.length_eq,Pr]
  have mem:∀ x∈W,∃ p∈al,x=.tup (p.1.map bz):=fun x hx=>by
   obtain⟨p,h1,h2⟩:=List.mem_map.mp (pm.mem_iff.mp hx);exact⟨p,h1,h2.symm⟩
  obtain⟨vs,v1,v2,v3⟩:=EC (ρ:=[none,‹dh al›]) (g:=gN 0) (C:=dZ) (Fe:=f2 Ae (ah 1) (ah 0)) W (fun i v=>∃ r∈rows,v=.tup r/\W[i]?=some (.tup (r.take kl))) fun i d hd=>by
   obtain⟨p,h1,h2⟩:=mem d (PJ hd);obtain⟨r,hr,e1,e2⟩:=hp p h1;have dx:=JA al p.1;rw [yI nd h1,e1] at dx;refine⟨[‹d›,‹dh al›],.tup r,rfl,rfl,?_,r,hr,rfl,by rw [hd,h2,e2]⟩;subst h2;generalize dh al=Z at dx;simp! only [dx]
  obtain⟨t,rfl⟩:=Bg vs fun v hv=>by
   obtain⟨i,hi,ei⟩:=Qn hv;obtain⟨r,_,e,_⟩:=v2 i v (by rw [Qj hi,ei]);exact⟨r,e⟩
  rw [Pr] at v1;have at_:∀ (i:Nat) (h:i < t.length),t[i]∈rows/\W[i]?=some (.tup (t[i].take kl)):=fun i h=>by
   obtain⟨r,hr,e,w⟩:=v2 i (.tup t[i]) (by rw [PF,Qj h]; rfl);injection e with e;rw [e]; exact⟨hr,w⟩
  refine⟨t,?_,?_,fun r hr=>?_,by omega,fun r hr=>?_⟩
  ·have lc:kP [none,some 2] (bZ (fL fT (af (fL nh (af (ah 2) (au))) (au)))) (gN 0) (dZ) (f2 Ae (ah 1) (ah 0)) [‹.int kl›,‹.lst (rows.map .tup)›,‹dh al›,none]=.ok (.lst (t.map .tup)):=by
    refine ip (ds:=W) ?_ ‹0› v3;generalize dh al=Z at lt;simp! only [lt,es]
   rw [hT];generalize dh al=Z at lc;simp! only [lc]
  ·refine List.pairwise_iff_getElem.mpr fun i j hi hj hij=>?_;have a:=(at_ i hi).2;have b:=(at_ j hj).2;rw [Qj ‹0›] at a b
   have:=List.pairwise_iff_getElem.mp ri i j ‹0› ‹0› hij
   rw [Option.some.inj a,Option.some.inj b] at this;exact this
  ·obtain⟨i,hi,ei⟩:=Qn hr;rw [<- ei]; exact(at_ i hi).1
  ·rw [Pr,Qs] at cv;obtain⟨q,hq,eq⟩:=cv r hr;obtain⟨p,hp',rfl⟩:=List.mem_map.mp hq
   have:D.tup (p.1.map bz)∈W:=pm.mem_iff.mpr (List.mem_map.mpr ⟨p,hp',rfl⟩)
   obtain⟨i,hi,ei⟩:=Qn this;have a:=(at_ i ‹0›).2;rw [Qj hi,ei] at a;injection a with a;injection a with a;exact⟨t[i]'‹0›,QX _,by rw [<- a,eq]⟩
theorem uo (c:Kd) (hg:c.gd) (g:Nat) (x:Int) (h0:0<=x) (h1:x < 2147483700):∃ v,aA (g+1) [c.d,.int x]=.ok v/\Sh [c.b] [v]:=by
 rw [eX,eR]; unfold gx;cases c with
 | num lo hi =>
  have hg:lo<=hi:=hg;have p7:rC (.int x) (.int 7)=some (.int (x ^ 7)):=Ag x 7 (by decide) ‹0›;have gm:=fun i=>iP (i:=i) (show (0:Int) < hi - lo+1 by omega);refine⟨.int (lo+x ^ 7%(hi - lo+1)),?_,.int _ .nil⟩;simp! only [Kd.d,Iw,p7,gm]
 | wrd ws =>
  obtain⟨wn,_⟩:=(show ws≠[]/\ws.length<=100 from hg)
  have ul:0 < ws.length:=List.length_pos_iff.mpr wn;have q1:=Rl x (show (ws.length:Int)≠0 by omega);have q2:=Rm x (show (0:Int) < (ws.length:Int) by omega);have gm:=fun i=>iP (i:=i) (show (0:Int) < (ws.length:Int) by omega);have ix:aW (.tup (ws.map .str)) (.int (x%(ws.length:Int)))=some (.str (ws[(x%(ws.length:Int)).toNat]'‹0›)):=by
   rw [JK,A4,rN q1 q2]; rfl
  refine⟨_,?_,.str (ws[(x%(ws.length:Int)).toNat]'‹0›) .nil⟩;simp! only [Kd.d,IC,FD,Pr,gm,ix]
theorem zO (n g:Nat) (hv:∀ (d:D) (x:Int),KG n d->0<=x->x < 2147483700->∃ v,aA (g+1) [d,.int x]=.ok v/\AL (2*n) v) (ks:KL) (qs:List (Str×D)) (k8:ks.length<=8) (q8:qs.length<=8) (hk:∀ p∈ks,p.2.gd) (hq:∀ q∈qs,KG n q.2) (mn hd tl:Int) (h0:0<=hd) (h1:hd < 2147483700) (t0:0<=tl) (t1:tl < 2147483700) :
  ∃ vs:List D,aF (g+2) [fr ks qs,.int mn,.int hd,.int tl]=.ok (.tup vs)/\vs.length=ks.length+qs.length/\Sh (ks.map (·.2.b)) (vs.take ks.length)/\∀ v∈vs,AL (2*n) v:=by
 rw [iN,zI]; unfold lI;have ad:=fS (ks.map kf) (qs.map fld) (by rw [Pr,Pr]; omega);have em:ks.map kf++qs.map fld=(ks.map toD++qs).map fld:=by rw [Qq,zM]
 rw [em] at ad;have fl:(ks.map toD++qs).length=ks.length+qs.length:=by rw [PK,Pr]
 obtain⟨T,hT⟩:∃ T:cw,T=(iO 4 (bG (fL cQ (af (ah 4) (au))))):=⟨_,rfl⟩
 rw [<- hT];simp! only [JW,ad];refine fA (Q:=fun z=>∃ vs:List D,z=.ok (.tup vs)/\vs.length=ks.length+qs.length/\Sh (ks.map (·.2.b)) (vs.take ks.length)/\∀ v∈vs,AL (2*n) v)
  (fun i ρ=>∃ (y z:Int) (ka va:List D),0<=y/\y < 2147483700/\0<=z/\z < 2147483700/\Sh ((ks.take i).map (·.2.b)) ka/\va.length=i - ks.length/\(∀ v∈va,AL (2*n) v)/\ρ=[‹fr ks qs›,‹.int mn›,‹.int y›,‹.int z›,some (.own (.lst (ka++va))),none,none]) ?_ ⟨hd,tl,[],[],h0,h1,t0,t1,.nil,by simp,(fun _ h=>nomatch h),rfl⟩ ?_
 ·rintro i d ρ kk hd ⟨y,z,ka,va,y0,y1,z0,z1,hka,lva,hva,rfl⟩;have hi:=cM hd;rw [Pr,fl] at hi;rw [PF,Qj ‹0›] at hd;cases hd;have kal:ka.length=min i ks.length:=by rw [hka.length,Pr,Pz]
  obtain⟨y',y0',y1',ey⟩:=jd y y0 y1;obtain⟨z',z0',z1',ez⟩:=jd z z0 z1;have step:∀ x:Int,0<=x->x < 2147483700->∃ v,aA (g+1) [((ks.map toD++qs)[i]'‹0›).2,.int x]=.ok v/\∃ ka' va',ka++va++[v]=ka'++va'/\Sh ((ks.take (i+1)).map (·.2.b)) ka'/\va'.length=i+1 - ks.length/\∀ v∈va',AL (2*n) v:=fun x x0 x1=>by
   by_cases h:i < ks.length
   ·have e:(ks.map toD++qs)[i]'‹0›=toD ks[i]:=(by rw [List.getElem_append_left (by rw [Pr]; exact h),Rj]);obtain⟨v,ev,sv⟩:=uo ks[i].2 (hk _ (QX h)) g x x0 x1;have v0:va=[]:=List.length_eq_zero_iff.mp ‹0›;subst v0;refine⟨v,by rw [e]; exact ev,ka++[v],[],by simp,?_,by simp; omega,fun _ h=>nomatch h⟩;rw [RC h,Qq];exact Aw hka sv
   ·have e:(ks.map toD++qs)[i]'‹0›=qs[i - ks.length]'‹0›:=(by rw [List.getElem_append_right (by rw [Pr]; omega)]; simp);obtain⟨v,ev,sv⟩:=hv _ x (hq _ (QX (show i - ks.length < qs.length by omega))) x0 x1;refine⟨v,by rw [e]; exact ev,ka,va++[v],by rw [Qx],?_,by rw [PK,PR]; omega,fun w hw=>?_⟩
    ·rw [Q4 ‹0›] at hka ⊢; exact hka
    ·rcases List.mem_append.mp hw with z | z
     ·exact hva w z
     ·rw [List.mem_singleton.mp z]; exact sv
  have gt:gT 2 (uB [5,6]) (fld ((ks.map toD++qs)[i]'‹0›)) [‹fr ks qs›,‹.int mn›,‹.int y›,‹.int z›,some (.own (.lst (ka++va))),none,none]=some [‹fr ks qs›,‹.int mn›,‹.int y›,‹.int z›,some (.own (.lst (ka++va))),‹.str ((ks.map toD++qs)[i]'‹0›).1›,‹((ks.map toD++qs)[i]'‹0›).2›]:=rfl;have alen:(ka++va).length < 1000:=by rw [PK]; omega
  generalize (ks.map toD++qs)[i]'‹0›=p at step gt;cases hb:decide (((ka++va).length:Int) < mn) with
  | true =>
   obtain⟨v,ev,ka',va',e1,e2,e3,e4⟩:=step y' y0' ‹0›;refine⟨_,_,gt,⟨y',z,ka',va',y0',by omega,z0,z1,e2,e3,e4,rfl⟩,?_⟩;have ap:gb (ka++va) [v]=some (ka'++va'):=(by rw [lx ‹0›,e1]);have sm:=fun K:Ks=>kY 4 gb (af (fR (aA (g+1)) (af (ah 6) (af (ah 2) (au)))) (au)) K [‹fr ks qs›,‹.int mn›,‹.int y'›,‹.int z›,some (.own (.lst (ka++va))),‹.str p.1›,‹p.2›] (xs:=ka++va) rfl;generalize ka++va=A at hb ap sm alen;generalize ka'++va'=B at ap;simp! only [mB,DV,hb,ey,sm,ev,ap]
  | false =>
   obtain⟨v,ev,ka',va',e1,e2,e3,e4⟩:=step z' z0' ‹0›;refine⟨_,_,gt,⟨y,z',ka',va',y0,y1,z0',by omega,e2,e3,e4,rfl⟩,?_⟩;have ap:gb (ka++va) [v]=some (ka'++va'):=(by rw [lx ‹0›,e1]);have sm:=fun K:Ks=>kY 4 gb (af (fR (aA (g+1)) (af (ah 6) (af (ah 3) (au)))) (au)) K [‹fr ks qs›,‹.int mn›,‹.int y›,‹.int z'›,some (.own (.lst (ka++va))),‹.str p.1›,‹p.2›] (xs:=ka++va) rfl;generalize ka++va=A at hb ap sm alen;generalize ka'++va'=B at ap;simp! only [mB,DV,hb,ez,sm,ev,ap]
 ·rintro ρ' ⟨y,z,ka,va,y0,y1,z0,z1,hka,lva,hva,rfl⟩;rw [Pr,fl] at hka lva;rw [Q4 ‹0›] at hka;have kal:ka.length=ks.length:=by rw [hka.length,Pr]
  refine⟨ka++va,?_,by rw [PK]; omega,by rw [<- kal,Rc]; exact hka,fun v hv=>?_⟩
  ·rw [hT];generalize ka++va=A;simp! only []
  ·rcases List.mem_append.mp hv with w | w
   ·exact(vR hka v w).of0 _
   ·exact hva v w
theorem za (n g:Nat) (hv:∀ (d:D) (x:Int),KG n d->0<=x->x < 2147483700->∃ v,aA (g+1) [d,.int x]=.ok v/\AL (2*n) v) (ks:KL) (qs:List (Str×D)) (k1:1<=ks.length) (k8:ks.length<=8) (q8:qs.length<=8) (hk:∀ p∈ks,p.2.gd) (hq:∀ q∈qs,KG n q.2) (x:Int) (m:Nat) (h0:0<=x) (h1:x < 2147483700) (hm:m<=5) :
  ∃ t:List (List D),aD (g+3) [fr ks qs,.int x,.int m]=.ok (.tup (t.map .tup))/\(∀ r∈t,(r.length<=16/\ks.length<=r.length)/\Sh (ks.map (·.2.b)) (r.take ks.length)/\∀ v∈r,AL (2*n) v)/\zY ks.length t/\t.length<=5:=by
 have rn:=kc m ‹0›;obtain⟨T,hT⟩:∃ T:cw,T=(iO 3 (bG (fR (aG bi 2 4) (af (fL ic (af (f2 aW (ah 0) (fC (.int 0))) (au))) (af (ah 3) (au)))))):=⟨_,rfl⟩
 rw [hJ,qO]; unfold jO;rw [<- hT];simp! only [JW,rn];refine fA (Q:=fun z=>∃ t:List (List D),z=.ok (.tup (t.map .tup))/\(∀ r∈t,(r.length<=16/\ks.length<=r.length)/\Sh (ks.map (·.2.b)) (r.take ks.length)/\∀ v∈r,AL (2*n) v)/\zY ks.length t/\t.length<=5)
  (fun i ρ=>∃ (y:Int) (rs:List (List D)),0<=y/\y < 2147483700/\rs.length=i/\(∀ r∈rs,(r.length<=16/\ks.length<=r.length)/\Sh (ks.map (·.2.b)) (r.take ks.length)/\∀ v∈r,AL (2*n) v)/\ρ=[‹fr ks qs›,‹.int y›,‹.int m›,some (.own (.lst (rs.map .tup))),none]) ?_ ⟨x,[],h0,h1,rfl,(fun _ h=>nomatch h),rfl⟩ ?_
 ·rintro i d ρ kk hd ⟨y,rs,y0,y1,rl,hr,rfl⟩;have hi:=cM hd;rw [cX] at hi;obtain⟨y',y0',y1',ey⟩:=jd y y0 y1;obtain⟨vs,ev,v1,v2,v3⟩:=zO n g hv ks qs k8 q8 hk hq 0 0 y' (by decide) (by decide) y0' ‹0›;refine⟨_,_,rfl,⟨y',rs++[vs],y0',by omega,by rw [PK,PR,rl],fun r h=>?_,rfl⟩,?_⟩
  ·rcases List.mem_append.mp h with z | z
   ·exact hr r z
   ·rw [List.mem_singleton.mp z]; exact⟨by omega,v2,v3⟩
  ·have ap:gb (rs.map .tup) [.tup vs]=some ((rs++[vs]).map .tup):=by
    rw [lx (by rw [Pr]; omega),Qq]; rfl
   have sm:=fun K:Ks=>kY 3 gb (af (fR (aF (g+2)) (af (ah 0) (af (fC (.int 0)) (af (fC (.int 0)) (af (ah 1) (au)))))) (au)) K [‹fr ks qs›,‹.int y'›,‹.int m›,some (.own (.lst (rs.map .tup))),‹d›] (xs:=rs.map .tup) rfl;generalize (rs++[vs]).map D.tup=Y at ap ⊢;generalize rs.map D.tup=Z at ap sm ⊢;simp! only [ey,sm,ev,ap]
 ·rintro ρ' ⟨y,rs,y0,y1,rl,hr,rfl⟩;rw [cX] at rl;obtain⟨t,et,ri,tm,tl,_⟩:=qA (σ:=ks.map (·.2.b)) (kl:=ks.length) (fun z=>by have:=congrArg List.length z; rw [Pr,P0] at this; omega) (by rw [Pr]) rs (fun r h=>(hr r h).2.1) ‹0›;refine⟨t,?_,fun r h=>hr r (tm r h),ri,by omega⟩;rw [hT];simp! only [Pr,et]
theorem ut:∀ (n g:Nat),3*n+1<=g->∀ (d:D) (x:Int),KG n d->0<=x->x < 2147483700->∃ v,aA g [d,.int x]=.ok v/\AL (2*n) v:=by
 intro n
 induction n with
 | zero =>
  intro g hg d x hd h0 h1;obtain⟨g,rfl⟩:∃ g',g=g'+1:=⟨g - 1,by omega⟩
  obtain⟨c,cg,rfl⟩:=hd;obtain⟨v,ev,sv⟩:=uo c cg g x h0 h1;exact⟨v,ev,vR sv v O6⟩
 | succ n ih =>
  intro g hg d x hd h0 h1;obtain⟨g,rfl⟩:∃ g',g=g'+3+1:=⟨g - 4,by omega⟩
  rcases hd with ⟨c,cg,rfl⟩ | ⟨ks,qs,b,rfl,k1,k8,hk,q8,hq⟩
  ·obtain⟨v,ev,sv⟩:=uo c cg (g+3) x h0 h1;exact⟨v,ev,(vR sv v O6).of0 _⟩
  ·have d3:=gd 3;have g3:=gm 3;obtain⟨m,hm,em⟩:∃ m:Nat,m<=3/\sE [.int (x%3),.int (if b then 1 else 0)]=some (.int (m:Int)):=by
    refine⟨(if (if b then (1:Int) else 0) > x%3 then (if b then (1:Int) else 0) else x%3).toNat,?_,?_⟩
    ·cases b <;> simp <;> split <;> omega
    ·rw [lY];congr 2;cases b <;> simp <;> split <;> omega
   obtain⟨t,ev,tm,_,tl⟩:=za n g (ih (g+1) ‹0›) ks qs k1 k8 q8 hk hq (x / 3) m ‹0› ‹0› ‹0›;refine⟨.tup (t.map .tup),?_,AL.tup (by rw [Pr]; omega) fun v hv=>?_⟩
   rotate_left
   ·obtain⟨r,h1,rfl⟩:=List.mem_map.mp hv;obtain⟨w1,_,w3⟩:=tm r h1;exact AL.tup ‹0› w3
   rw [eX,eR]; unfold gx;simp! only [Iy,G7,d3,g3,EJ,em,ev]
structure Tab (σ:List Bool) (t:List (List D)):Prop where
 sh:∀ r∈t,Sh σ (r.take σ.length)
 ri:zY σ.length t
 ln:t.length < 51
 rl:∀ r∈t,r.length<=16/\σ.length<=r.length
 al:∀ r∈t,∀ v∈r,AL 4 v
theorem Ek (ks:KL) (qs:List (Str×D)) (n:Nat) (hn:n<=2) (k1:1<=ks.length) (k8:ks.length<=8) (q8:qs.length<=8) (hk:∀ p∈ks,p.2.gd) (hq:∀ q∈qs,KG n q.2) (m:Int) (ns:List Int) (hl:ns.length<=63) :
  ∃ t:List (List D),Tab (ks.map (·.2.b)) t/\aG gJ 5 8 [fr ks qs,.int m,.lst (ns.map .int),.int 2,.int 50]=.ok (.tup (t.map .tup)):=by
 have g2:=gm 2;have g4:=gm 4;have d2:=gd 2;have l2:∀ a b:D,pI [a,b]=some (.lst [a,b]):=fun _ _=>nr rfl;obtain⟨N,hN,rn⟩:∃ N:Nat,N<=50/\∀ e1 e2:Int,sE [.int (ns.length:Int),.int 7]=some (.int e1)->yV [.int e1,.int 52]=some (.int e2)->rW [.int 2,.int e2]=some (e7 2 N):=by
  refine⟨((if (52:Int) < (if (7:Int) > (ns.length:Int) then 7 else (ns.length:Int)) then 52 else (if (7:Int) > (ns.length:Int) then 7 else (ns.length:Int))) - 2).toNat,?_,fun e1 e2 h1 h2=>?_⟩
  ·split <;> split <;> omega
  ·rw [lY] at h1;cases h1;rw [mF] at h2;cases h2;generalize he:(if (52:Int) < (if (7:Int) > (ns.length:Int) then 7 else (ns.length:Int)) then 52 else (if (7:Int) > (ns.length:Int) then 7 else (ns.length:Int)))=e;have e2:2<=e/\e<=52:=(by rw [<- he]; split <;> split <;> omega);show (if okR 2 && okR e then some (e7 2 ((e - 2).toNat)) else none)=_;have o1:okR 2=true:=decide_eq_true ⟨by decide,by decide⟩;have o2:okR e=true:=decide_eq_true ⟨by omega,by omega⟩;rw [o1,o2]; rfl
 have mx:=lY (ns.length:Int) 7;have rn:=rn _ _ mx (mF _ _);obtain⟨T,hT⟩:∃ T:cw,T=(iO 5 (bG (fR (aG bi 2 4) (af (fL ic (af (f2 aW (ah 0) (fC (.int 0))) (au))) (af (ah 5) (au)))))):=⟨_,rfl⟩
 rw [IG]; unfold gJ;rw [<- hT];have p7:(2:Int)+5=7:=rfl;have p62:(2:Int)+50=52:=rfl;simp! only [JW,Pr,p7,p62,rn];refine fA (Q:=fun z=>∃ t:List (List D),Tab (ks.map (·.2.b)) t/\z=.ok (.tup (t.map .tup)))
  (fun i ρ=>∃ rs:List (List D),rs.length=i/\(∀ r∈rs,r.length=ks.length+qs.length/\Sh (ks.map (·.2.b)) (r.take ks.length)/\∀ v∈r,AL 4 v)/\ρ=[‹fr ks qs›,‹.int m›,‹.lst (ns.map .int)›,‹.int 2›,‹.int 50›,some (.own (.lst (rs.map .tup))),none,none]) ?_ ⟨[],rfl,(fun _ h=>nomatch h),rfl⟩ ?_
 ·rintro i d ρ kk hd ⟨rs,rl,hr,rfl⟩;have hi:=cM hd;rw [cX] at hi;have hdi:d=.int ((2+i:Nat):Int):=by
   rw [kT,PF,Qu hi] at hd;cases hd; simp
  subst hdi;obtain⟨x,x0,x1,ex⟩:=xO ns (2+i) ‹0›;obtain⟨y,y0,y1,ey⟩:=jd x x0 ‹0›;obtain⟨h,h0,h1,eh⟩:∃ h:Int,0<=h/\h < 2147483700/\aW (.lst [.int (x / 2%4),.int (x / 2)]) (.int (x%2))=some (.int h):=by
   rcases(show x%2=0\/x%2=1 by omega) with z | z <;> rw [z]
   ·exact⟨x / 2%4,by omega,by omega,rfl⟩
   ·exact⟨x / 2,by omega,by omega,rfl⟩
  obtain⟨vs,ev,v1,v2,v3⟩:=zO n 18 (ut n 19 ‹0›) ks qs k8 q8 hk hq m h y h0 h1 y0 ‹0›;have ev:aF 20 [fr ks qs,.int m,.int h,.int y]=.ok (.tup vs):=ev;refine⟨_,_,rfl,⟨rs++[vs],by rw [PK,PR,rl],fun r h=>?_,rfl⟩,?_⟩
  ·rcases List.mem_append.mp h with z | z
   ·exact hr r z
   ·rw [List.mem_singleton.mp z]; exact⟨v1,v2,fun v hv=>AL.le ‹0› (v3 v hv)⟩
  ·have ap:gb (rs.map .tup) [.tup vs]=some ((rs++[vs]).map .tup):=by
    rw [lx (by rw [Pr]; omega),Qq]; rfl
   have sm:=fun K:Ks=>kY 5 gb (af (fR (aF 20) (af (ah 0) (af (ah 1) (af (f2 aW (kU (af (f2 dD (f2 eP (ah 7) (fC (.int 2))) (fC (.int 4))) (af (f2 eP (ah 7) (fC (.int 2))) (au)))) (f2 dD (ah 7) (fC (.int 2)))) (af (fR (aG aM 1 1) (af (ah 7) (au))) (au)))))) (au)) K [‹fr ks qs›,‹.int m›,‹.lst (ns.map .int)›,‹.int 2›,‹.int 50›,some (.own (.lst (rs.map .tup))),‹.int ((2+i:Nat):Int)›,‹.int x›] (xs:=rs.map .tup) rfl;generalize (rs++[vs]).map D.tup=Y at ap ⊢;generalize rs.map D.tup=Z at ap sm ⊢;simp! only [ex,sm,d2,g4,l2,g2,eh,ey,ev,ap]
 ·rintro ρ' ⟨rs,rl,hr,rfl⟩;rw [cX] at rl;have sl:(ks.map (·.2.b)).length=ks.length:=by rw [Pr]
  obtain⟨t,et,ri,tm,tl,_⟩:=qA (σ:=ks.map (·.2.b)) (kl:=ks.length) (fun z=>by have:=congrArg List.length z; rw [Pr,P0] at this; omega) sl.symm rs (fun r h=>(hr r h).2.1) ‹0›;refine⟨t,⟨fun r h=>by rw [sl]; exact(hr r (tm r h)).2.1,by rw [sl]; exact ri,by omega,fun r h=>by have:=(hr r (tm r h)).1; rw [sl]; omega,fun r h=>(hr r (tm r h)).2.2⟩,?_⟩;rw [hT];simp! only [Pr,et]
theorem Fj (n g:Nat) (hn:n<=2) (hv:∀ (d:D) (x:Int),KG n d->0<=x->x < 2147483700->∃ v,aA (g+1) [d,.int x]=.ok v/\AL (2*n) v) (ks:KL) (qs:List (Str×D)) (k1:1<=ks.length) (k8:ks.length<=8) (q8:qs.length<=8) (hk:∀ p∈ks,p.2.gd) (hq:∀ q∈qs,KG n q.2) (x:Int) (m:Nat) (h0:0<=x) (h1:x < 2147483700) (hm:m<=5) :
  ∃ t:List (List D),aD (g+3) [fr ks qs,.int x,.int m]=.ok (.tup (t.map .tup))/\Tab (ks.map (·.2.b)) t:=by
 obtain⟨t,et,tm,ri,tl⟩:=za n g hv ks qs k1 k8 q8 hk hq x m h0 h1 hm;have sl:(ks.map (·.2.b)).length=ks.length:=by rw [Pr]
 exact⟨t,et,fun r h=>by rw [sl]; exact(tm r h).2.1,by rw [sl]; exact ri,by omega,fun r h=>by rw [sl]; exact(tm r h).1,fun r h v hv=>AL.le ‹0› ((tm r h).2.2 v hv)⟩
abbrev pf (ks is:KL) (jq:List (Str×D)) (nm:Str) (sm:Bool):D:=.tup [.tup (ks.map kf),.tup [.tup [.str nm,.tup [.str "rows",fr is jq,.bl sm]]]]
def Je (b:Int) (ks is:KL) (jq:List (Str×D)) (nm:Str):Prop:=(∀ (j:Nat) (w:Str),(ks.map (·.1))[j]?=some w->yD b (0+(j:Int)) w)/\(∀ (j:Nat) (w:Str),(is.map (·.1)++jq.map (·.1))[j]?=some w->yD b (8+(j:Int)) w)/\∃ k:Int,(k=16\/k=8\/k=23\/k=17)/\yD b k nm
theorem CC (ns:List Int) (sm:Bool) (c1:Int) (e1:aG bS 2 2 [.lst (ns.map .int),.int 1]=.ok (.int c1)):∃ (ks is:KL) (jq:List (Str×D)) (nm:Str) (n:Nat),n<=2/\1<=ks.length/\1<=is.length/\ks.length+is.length<=8/\is.length+jq.length<=8/\(∀ p∈ks,p.2.gd)/\(∀ p∈is,p.2.gd)/\(∀ q∈jq,KG n q.2)/\Je (c1*48271%2147483647) ks is jq nm/\aG dG 2 10 [.lst (ns.map .int),.bl sm]=.ok (pf ks is jq nm sm):=by
 obtain⟨x,x0,x1,ex⟩:=xO ns 0 ‹0›;have ex:aG cT 2 3 [.lst (ns.map .int),.int 0]=.ok (.int x):=ex;obtain⟨y,y0,y1,ey⟩:=jd x x0 ‹0›;have mm:=fun i=>pG (i:=i) (j:=48271) (by decide) (by decide);have gM:=gm 2147483647;have g3:=gm 3;have g4:=gm 4;have g8:=gm 8;have d4:=gd 4;have d16:=gd 16;have d128:=gd 128;have d1024:=gd 1024;have d4096:=gd 4096;have d16384:=gd 16384;obtain⟨b,hb,b0⟩:∃ b:Int,c1*48271%2147483647=b/\0<=b:=⟨_,rfl,Rl _ (by decide)⟩
 rw [hb];obtain⟨dp,dp2,ed⟩:∃ dp:Nat,dp<=2/\aW (.lst [.int 0,.int 0,.int 1,.int 2]) (.int (x / 1024%4))=some (.int (dp:Int)):=by
  rcases(show x / 1024%4=0\/x / 1024%4=1\/x / 1024%4=2\/x / 1024%4=3 by omega) with z | z | z | z <;> rw [z]
  ·exact⟨0,by decide,rfl⟩
  ·exact⟨0,by decide,rfl⟩
  ·exact⟨1,by decide,rfl⟩
  ·exact⟨2,by decide,rfl⟩
 obtain⟨k,k0,ek⟩:∃ k:Int,(k=16\/k=8\/k=23\/k=17)/\aW (.lst [.int 16,.int 8,.int 23,.int 17]) (.int (x / 16384%4))=some (.int k):=by
  rcases(show x / 16384%4=0\/x / 16384%4=1\/x / 16384%4=2\/x / 16384%4=3 by omega) with z | z | z | z <;> rw [z]
  ·exact⟨16,by decide,rfl⟩
  ·exact⟨8,by decide,rfl⟩
  ·exact⟨23,by decide,rfl⟩
  ·exact⟨17,by decide,rfl⟩
 obtain⟨nm,en,nP⟩:=xi b k b0 ‹0›;rw [eR]; unfold dG;cases h3:(x / 16%8==3) with
 | true =>
  obtain⟨ks,q0,ef,l1,l2,f1,f2,fn⟩:=sj 0 (by decide) y b 0 (7 - x / 128%3).toNat 0 y0 ‹0› b0 (by decide) ‹0› ‹0›;rw [RD ‹0›] at ef;obtain⟨is,jq,eg,m1,m2,i1,i2,fi⟩:=sj dp ‹0› (y+1) b 8 (8 - (7 - x / 128%3)).toNat (x / 4096%4).toNat ‹0› ‹0› b0 (by decide) ‹0› ‹0›;rw [RD ‹0›,RD ‹0›] at eg;refine⟨ks,is,jq,nm,dp,dp2,by omega,by omega,by omega,by omega,f1,i1,i2,⟨fun j w h=>fn j w (by rw [List.length_eq_zero_iff.mp l2,PX,Pw]; exact h),fi,k,k0,nP⟩,?_⟩;have ef:aP 20 [.int y,.int b,.int 0,.int (7 - x / 128%3),.int 0,.int 0]=.ok (fr ks q0):=ef;simp! only [ex,e1,mm,gM,hb,g3,g4,g8,d4,d16,h3,d128,ey,ef,MC,d1024,ed,d4096,eg,d16384,ek,en,HA,yf,Ib]
 | false =>
  obtain⟨ks,q0,ef,l1,l2,f1,f2,fn⟩:=sj 0 (by decide) y b 0 (1+x%4).toNat 0 y0 ‹0› b0 (by decide) ‹0› ‹0›;rw [RD ‹0›] at ef;obtain⟨is,jq,eg,m1,m2,i1,i2,fi⟩:=sj dp ‹0› (y+1) b 8 (1+x / 4%4).toNat (x / 4096%4).toNat ‹0› ‹0› b0 (by decide) ‹0› ‹0›;rw [RD ‹0›,RD ‹0›] at eg;refine⟨ks,is,jq,nm,dp,dp2,by omega,by omega,by omega,by omega,f1,i1,i2,⟨fun j w h=>fn j w (by rw [List.length_eq_zero_iff.mp l2,PX,Pw]; exact h),fi,k,k0,nP⟩,?_⟩;have ef:aP 20 [.int y,.int b,.int 0,.int (1+x%4),.int 0,.int 0]=.ok (fr ks q0):=ef;simp! only [ex,e1,mm,gM,hb,g3,g4,g8,d4,d16,h3,d128,ey,ef,MC,d1024,ed,d4096,eg,d16384,ek,en,HA,yf,Ib]
theorem Bk (ks is:KL) (jq:List (Str×D)) (nm:Str) (sm:Bool) (h:ks.length+is.length<=8):aG cu 1 2 [pf ks is jq nm sm]=.ok (fr (ks++is) jq):=by
 have ad:=fS (ks.map kf) (is.map kf) (by rw [Pr,Pr]; omega);rw [<- Qq] at ad;rw [oS]; unfold cu;simp! only [ad,yf]
theorem zip_get:∀ (xs:List D) (i:Nat) (d:D),(pM xs xs)[i]?=some d->∃ x∈xs,d=.tup [x,x]
 | x::xs,0,d,h=>by cases h; exact⟨x,O6,rfl⟩
 | x::xs,i+1,d,h=>by
  obtain⟨y,h1,h2⟩:=zip_get xs i d h;exact⟨y,O7 _ h1,h2⟩
noncomputable def kq (f:List D):List Key:=(keysOf f).getD []
theorem Ld (q:List Key):kq (q.map bz)=q:=by unfold kq; rw [cR]; rfl
theorem rk {σ:List Bool} {f:List D} (h:Sh σ f):(kq f).map bz=f:=by
 obtain⟨q,e⟩:=rV h;rw [e,Ld]
theorem wO {σ:List Bool} {f f':List D} (h:Sh σ f) (h':Sh σ f') (e:kq f=kq f'):f=f':=by
 rw [<- rk h,e,rk h']
section
open Classical
theorem Jn {σ:List Bool} (L:List (List D)) (k:List D) (v:D) (hL:∀ f∈L,Sh σ f) (hk:Sh σ k) :
  ib (L.map fun f=>(kq f,v)) (kq k) v=(if k∈L then L else L++[k]).map fun f=>(kq f,v):=by
 have e:((L.map fun f=>(kq f,v)).any fun p=>decide (p.1=kq k))=true↔k∈L:=by
  rw [Rz];constructor
  ·rintro⟨p,hp,hq⟩;obtain⟨f,hf,rfl⟩:=List.mem_map.mp hp;rw [<- wO (hL f hf) hk (of_decide_eq_true hq)]; exact hf
  ·intro h;exact⟨_,List.mem_map.mpr ⟨k,h,rfl⟩,decide_eq_true rfl⟩
 unfold ib;by_cases h:k∈L
 ·rw [if_pos (e.mpr h),if_pos h,Q0];refine Qp fun f _=>?_;show (if kq f=kq k then (kq f,v) else (kq f,v))=(kq f,v)
  split <;> rfl
 ·rw [if_neg fun z=>h (e.mp z),if_neg h,Qq]; rfl
theorem EF {σ:List Bool} (k:List D) (v:D) (hk:Sh σ k) (ψ:List D->List D):∀ L:List (List D),(∀ f∈L,Sh σ f)->L.Nodup->(∀ f∈L,(ψ f).length < 1000)->(k∉L->ψ k=[]) ->
  uC (L.map fun f=>(kq f,.lst (ψ f))) (kq k) v=some ((if k∈L then L else L++[k]).map fun f=>(kq f,.lst (ψ f++if k=f then [v] else [])))
 | [],_,_,_,h0=>by
  rw [if_neg (by simp)];show some [(kq k,D.lst [v])]=some [(kq k,.lst (ψ k++if k=k then [v] else []))];rw [h0 (by simp),if_pos rfl]; rfl
 | f::L,hL,nd,hl,h0=>by
  obtain⟨n1,n2⟩:=List.nodup_cons.mp nd;show (if kq f=kq k then _ else _)=_;by_cases h:f=k
  ·subst h;rw [if_pos rfl,if_pos O6];show (if small ((ψ f).length+1) then some ((kq f,D.lst (ψ f++[v]))::L.map fun f=>(kq f,.lst (ψ f))) else none)=_;have hl0:=hl f O6;rw [if_pos (show small ((ψ f).length+1)=true from decide_eq_true ‹0›),Pq,if_pos rfl];congr 2;refine Qp fun x hx=>?_;rw [if_neg (fun z=>n1 (by rw [z]; exact hx)),Pw]
  ·rw [if_neg (fun z=>h (wO (hL f O6) hk z))];have ih:=EF k v hk ψ L (fun x hx=>hL x (O7 _ hx)) n2 (fun x hx=>hl x (O7 _ hx)) (fun z=>h0 fun y=>by
    rcases List.mem_cons.mp y with y | y
    ·exact h y.symm
    ·exact z y)
   rw [show uC (List.map (fun f=>(kq f,D.lst (ψ f))) L) (kq k) v=_ from ih];have em:k∈f::L↔k∈L:=by
    rw [Qz]; exact⟨fun z=>z.resolve_left fun y=>h y.symm,.inr⟩
   by_cases hm:k∈L
   ·rw [if_pos hm,if_pos (em.mpr hm),Pq,if_neg (fun z=>h z.symm),Pw]; rfl
   ·rw [if_neg hm,if_neg (fun z=>hm (em.mp z)),Qb,Pq,if_neg (fun z=>h z.symm),Pw]; rfl
theorem xB:∀ (ps al:List (List Key×D)),((al++ps).map (·.1)).Nodup->ps.foldl (fun al p=>ib al p.1 p.2) al=al++ps
 | [],al,_=>by rw [Pw]; rfl
 | p::ps,al,h=>by
  rw [QQ];have e:ib al p.1 p.2=al++[p]:=by
   unfold ib;rw [if_neg];intro z;obtain⟨a,ha,e⟩:=List.any_eq_true.mp z;rw [Qq,Pq] at h;exact(List.nodup_append.mp h).2.2 a.1 (List.mem_map.mpr ⟨a,ha,rfl⟩) p.1 O6 (of_decide_eq_true e)
  rw [e,xB ps (al++[p]) (by rw [Qx]; exact h),Qx]; rfl
theorem sM:∀ ps:List (List Key×D),iR (ps.map me)=some ps
 | []=>rfl
 | p::ps=>by
  show (yu (me p)).bind (fun q=>(iR (ps.map me)).map (q::·))=_;rw [sM ps];show ((jH (.tup (p.1.map bz))).map _).bind _=_;rw [o5]; rfl
end
theorem IE {σ:List Bool} {a b:List D} (h:Sh σ a) (h':Sh σ b):mj (.tup a) (.tup b)=some (.bl (iH a b)):=by
 have e:mj (.tup a) (.tup b)=if (pl (.tup a) && pl (.tup b)) && (fK 8 (.tup a) || fK 8 (.tup b)) then some (.bl (pyEq (.tup a) (.tup b))) else none:=rfl
 have d:fK 8 (.tup a)=true:=by show a.all (fK 7)=true; exact xt 6 h
 rw [e,d9,d9,vq h,vq h',d];show some (D.bl (pyEq (.tup a) (.tup b)))=_;rw [pyEq]
section
open Classical
theorem GY {σ:List Bool} {a b:List D} (h:Sh σ a) (h':Sh σ b):mj (.tup a) (.tup b)=some (.bl (decide (a=b))):=by
 rw [IE h h'];congr 2;by_cases e:a=b
 ·rw [decide_eq_true e]; exact(sU h h').mpr e
 ·rw [decide_eq_false e];cases z:iH a b with
  | false=>rfl
  | true=>exact absurd ((sU h h').mp z) e
noncomputable def iT (m:Nat) (t:List (List D)) (f:List D):List D:=f++[.tup ((gp m t f).map .tup)]
noncomputable def vw (m:Nat) (t:List (List D)):D:=.tup ((fs m t).map fun f=>.tup (iT m t f))
theorem Dp (m:Nat) (t:List (List D)) (f:List D):(gp m t f).length<=t.length:=by
 unfold gp; rw [Pr]; exact RE _ _
section
variable {σ:List Bool} {t:List (List D)} {m:Nat}
theorem Tab.fsh (T:Tab σ t) (hm:m<=σ.length):∀ r∈t,Sh (σ.take m) (r.take m):=fun r h=>by
 have:=rS m (T.sh r h)
 rw [Rn,Q7 hm] at this;exact this
theorem tU (s:List (List D)) (h:∀ r∈s,Sh (σ.take m) (r.take m)):∀ f∈fs m s,Sh (σ.take m) f:=fun f hf=>by
 obtain⟨r,hr,rfl⟩:=(mE m).mp hf;exact h r hr
theorem EI (T:Tab σ t) (f:List D) (h:f∈fs m t):f.length<=16:=by
 obtain⟨r,hr,rfl⟩:=(mE m).mp h
 have:=(T.rl r hr).1
 rw [Pz]; omega
theorem Jc (T:Tab σ t) (hm:m<=σ.length) (f:List D) (h:f∈fs m t):f.length=m:=by
 obtain⟨r,hr,rfl⟩:=(mE m).mp h
 have:=(T.rl r hr).2
 rw [Pz]; omega
theorem sR {i:Nat} (h:i < t.length):t.take (i+1)=t.take i++[t[i]]:=RC h
theorem Bd (L:List (List D)) (nd:L.Nodup) (h:∀ f∈L,Sh (σ.take m) f) (v:List D->D):((L.map fun f=>(kq f,v f)).map (·.1)).Nodup:=by
 rw [Q0];refine List.pairwise_map.mpr (List.Pairwise.imp_of_mem (fun {a b} ha hb ne e=>ne ?_) nd);exact wO (h a ha) (h b hb) e
theorem Gd (L:List (List D)) (h:∀ f∈L,Sh (σ.take m) f) (v:List D->D):encK (L.map fun f=>(kq f,v f))=L.map .tup:=by
 show (L.map fun f=>(kq f,v f)).map _=_;rw [Q0];refine Qp fun f hf=>?_;show D.tup ((kq f).map bz)=.tup f;rw [rk (h f hf)]
theorem vx (T:Tab σ t) (m1:1<=m) (hm:m<=σ.length) {d0:D} (hd0:pX d0=some (t.map .tup)):aG du 2 6 [d0,.int m]=.ok (vw m t):=by
 have fsh:=T.fsh hm;have tl:=T.ln;obtain⟨TT,hT⟩:∃ TT:cw,TT=(iO 2 (aJ (kM (bZ (fL fT (af (fL nh (af (ah 2) (au))) (au)))) (gN 5) (aJ (AJ 4 gb (af (f2 cj (ah 5) (cy (af (fL cQ (af (kP [none,some 1,some 5] (bZ (ah 0)) (gN 0) (fB (f2 mj (bK (ah 0) (bj) (cE (ah 1))) (ah 2))) (bK (ah 0) (cE (ah 1)) (bj))) (au))) (au)))) (au))) (fO [5] cG))) (iO 4 (bG (fL cQ (af (ah 4) (au))))))):=⟨_,rfl⟩
 rw [eR]; unfold du;rw [<- hT];simp! only [wG,hd0];refine fA (Q:=fun z=>z=.ok (vw m t)) (fun i ρ=>∃ x,ρ=[‹d0›,‹.int m›,some (.own (dh ((fs m (t.take i)).map fun f=>(kq f,.bl true)))),x,none,none]) ?_ ⟨none,rfl⟩ ?_
 ·rintro i d ρ kk hd ⟨x,rfl⟩;have hi:=cM hd;rw [Pr] at hi;rw [PF,Qj hi] at hd;cases hd;have rm:t[i]∈t:=QX hi;have ct:cutD t[i] none (some (m:Int))=(kq (t[i].take m)).map bz:=by rw [mZ,rk (fsh _ rm)]
  refine⟨_,_,rfl,⟨‹.tup t[i]›,rfl⟩,?_⟩;have pi:=Jn (σ:=σ.take m) (fs m (t.take i)) (t[i].take m) (.bl true) (tU _ fun r hr=>fsh r (RF hr)) (fsh _ rm);have fe:fs m (t.take (i+1))=if t[i].take m∈fs m (t.take i) then fs m (t.take i) else fs m (t.take i)++[t[i].take m]:=by
   rw [sR hi,lN]; rfl
  have fl:=oT m (t.take i);rw [Pz] at fl;have pd:=fun K:Ks=>A3 (i:=2) (fk:=bK (ah 3) (bj) (cE (ah 1))) (fv:=fC (.bl true)) (k:=K) (ρ:=[‹d0›,‹.int m›,some (.own (dh ((fs m (t.take i)).map fun f=>(kq f,.bl true)))),‹.tup t[i]›,none,none]) (al:=(fs m (t.take i)).map fun f=>(kq f,.bl true)) (q:=kq (t[i].take m)) (v:=.bl true) rfl (by simp! only [ct]) rfl (by rw [Pr]; omega);rw [pi,<- fe] at pd;generalize dh ((fs m (t.take (i+1))).map fun f=>(kq f,.bl true))=Y at pd ⊢;generalize dh ((fs m (t.take i)).map fun f=>(kq f,.bl true))=Z at pd ⊢;simp! only [pd]
 ·rintro ρ' ⟨x,rfl⟩;rw [Pr,Qs];have fl:=oT m t;have fsL:=tU t fsh;have en:=Gd (m:=m) (σ:=σ) (fs m t) fsL (fun _=>.bl true);have knd:=Bd (m:=m) (σ:=σ) (fs m t) (yt m t) fsL (fun _=>.bl true);have s0:σ.take m≠[]:=fun z=>by
   have:=congrArg List.length z
   rw [Pz,P0] at this; omega
  obtain⟨es,_⟩:=Bt (σ:=σ.take m) knd (fun p hp=>by
   obtain⟨f,hf,rfl⟩:=List.mem_map.mp hp;show Sh _ ((kq f).map bz);rw [rk (fsL f hf)]; exact fsL f hf) s0 (by rw [Pr]; omega)
  have lt:=x9 ((fs m t).map fun f=>(kq f,.bl true));rw [en] at es lt;have so:iX eD ((fs m t).map .tup)=(fs m t).map .tup:=by
   refine mY (σ:=σ.take m) (fun x hx=>?_) ?_ ?_ (List.Perm.refl _)
   ·obtain⟨f,hf,rfl⟩:=List.mem_map.mp hx;exact fsL f hf
   ·exact List.pairwise_map.mpr ((yt m t).imp fun {a b} ne e=>ne e)
   ·exact List.pairwise_map.mpr (zC m rfl T.sh hm T.ri).1
  rw [so] at es;rw [hT];generalize dh ((fs m t).map fun f=>(kq f,.bl true))=Z at lt ⊢;simp! only [JW,lt,es];refine fA (Q:=fun z=>z=.ok (vw m t)) (fun i ρ=>ρ=[‹d0›,‹.int m›,‹Z›,x,some (.own (.lst (((fs m t).take i).map fun f=>.tup (iT m t f)))),none]) ?_ rfl ?_
  ·rintro i d ρ kk hd rfl;have hi:=cM hd;rw [Pr] at hi;rw [PF,Qj hi] at hd;cases hd;obtain⟨f,ef⟩:∃ f,f=(fs m t)[i]:=⟨_,rfl⟩
   have fm:f∈fs m t:=(by rw [ef]; exact QX hi);have ap:gb (((fs m t).take i).map fun f=>.tup (iT m t f)) [.tup (iT m t f)]=some (((fs m t).take (i+1)).map fun f=>.tup (iT m t f)):=by
    rw [lx (by rw [Pr,Pz]; omega),RC hi,<- ef,Qq]; rfl
   rw [<- ef];have lc:kP [none,some 1,some 5] (bZ (ah 0)) (gN 0) (fB (f2 mj (bK (ah 0) (bj) (cE (ah 1))) (ah 2))) (bK (ah 0) (cE (ah 1)) (bj)) [‹d0›,‹.int m›,‹Z›,x,some (.own (.lst (((fs m t).take i).map fun f=>.tup (iT m t f)))),‹.tup f›]=.ok (.lst ((gp m t f).map .tup)):=by
    refine ip (ds:=t.map .tup) (by generalize (((fs m t).take i).map fun f=>D.tup (iT m t f))=A; simp! only [hd0]) (by rw [Pr]; omega) ?_
    have:=Bb (ρ:=inB [none,some 1,some 5] [‹d0›,‹.int m›,‹Z›,x,some (.own (.lst (((fs m t).take i).map fun f=>.tup (iT m t f)))),‹.tup f›]) (g:=gN 0) (C:=fB (f2 mj (bK (ah 0) (bj) (cE (ah 1))) (ah 2))) (Fe:=bK (ah 0) (cE (ah 1)) (bj)) D.tup (fun r=>decide (r.take m=f)) (fun r=>.tup (r.drop m)) t fun r hr=>by
     have eq:=GY (fsh r hr) (fsL f fm);refine⟨[‹.tup r›,‹.int m›,‹.tup f›],rfl,?_,fun _=>?_⟩
     ·simp! only [mZ,eq]
     ·simp! only [ui]
    rw [this];unfold gp;rw [Q0]; rfl
   have ad:cj (.tup f) (.tup [.tup ((gp m t f).map .tup)])=some (.tup (iT m t f)):=by
    have:=EI T f fm
    exact fS f _ (by rw [PR]; omega)
   have sm:=fun K:Ks=>kY 4 gb (af (f2 cj (ah 5) (cy (af (fL cQ (af (kP [none,some 1,some 5] (bZ (ah 0)) (gN 0) (fB (f2 mj (bK (ah 0) (bj) (cE (ah 1))) (ah 2))) (bK (ah 0) (cE (ah 1)) (bj))) (au))) (au)))) (au)) K [‹d0›,‹.int m›,‹Z›,x,some (.own (.lst (((fs m t).take i).map fun f=>.tup (iT m t f)))),‹.tup f›] (xs:=((fs m t).take i).map fun f=>.tup (iT m t f)) rfl;refine⟨_,_,rfl,rfl,?_⟩;generalize (((fs m t).take (i+1)).map fun f=>D.tup (iT m t f))=Y at ap ⊢;generalize (((fs m t).take i).map fun f=>D.tup (iT m t f))=A at ap sm lc ⊢;simp! only [sm,lc,HA,ad,ap]
  ·rintro ρ' rfl;rw [Pr,Qs];unfold vw;generalize ((fs m t).map fun f=>D.tup (iT m t f))=A;simp! only []
theorem AI (T:Tab σ t) (hm:m<=σ.length):aG jn 2 4 [.int m,.tup (t.map .tup)]=.ok (oU ((fs m t).map fun f=>(kq f,.tup ((gp m t f).map .tup)))):=by
 have fsh:=T.fsh hm;have fl:=oT m t;have tl:=T.ln;have fsL:=tU t fsh;obtain⟨TT,hT⟩:∃ TT:cw,TT=(vD 2 (bG (fL tO (af (kP [none,none] (lW (ah 2)) (gT 2 (uB [0,1])) (dZ) (cy (af (ah 0) (af (fL cQ (af (ah 1) (au))) (au))))) (au))))):=⟨_,rfl⟩
 rw [eR]; unfold jn;rw [<- hT];have nn:∀ K:Ks,ym 2 K [‹.int m›,‹.tup (t.map .tup)›,none,none]=K.nx [‹.int m›,‹.tup (t.map .tup)›,some (.nest (dh [])),none]:=fun K=>rfl;simp! only [nn];refine fA (Q:=fun z=>z=.ok (oU ((fs m t).map fun f=>(kq f,.tup ((gp m t f).map .tup))))) (fun i ρ=>ρ=[‹.int m›,‹.tup (t.map .tup)›,some (.nest (dh ((fs m (t.take i)).map fun f=>(kq f,.lst ((gp m (t.take i) f).map .tup))))),none]) ?_ rfl ?_
 ·rintro i d ρ kk hd rfl;have hi:=cM hd;rw [Pr] at hi;rw [PF,Qj hi] at hd;cases hd;have rm:t[i]∈t:=QX hi;have fi:=oT m (t.take i);rw [Pz] at fi;have gi:=EF (σ:=σ.take m) (t[i].take m) (.tup (t[i].drop m)) (fsh _ rm) (fun f=>(gp m (t.take i) f).map .tup) (fs m (t.take i)) (tU _ fun r hr=>fsh r (RF hr)) (yt m _) (fun f _=>by
   have:=Dp m (t.take i) f
   rw [Pz] at this;rw [Pr]; omega) (fun z=>by
    unfold gp;rw [List.filter_eq_nil_iff.mpr]
    ·rfl
    ·intro x hx y;exact z ((mE m).mpr ⟨x,hx,by simpa using y⟩))
  have ge:∀ f,((gp m (t.take i) f).map D.tup++if t[i].take m=f then [.tup (t[i].drop m)] else [])=(gp m (t.take (i+1)) f).map .tup:=fun f=>by
   rw [sR hi,rP,Qq];by_cases h:t[i].take m=f
   ·rw [if_pos h,if_pos h]; rfl
   ·rw [if_neg h,if_neg h]; rfl
  have fe:fs m (t.take (i+1))=if t[i].take m∈fs m (t.take i) then fs m (t.take i) else fs m (t.take i)++[t[i].take m]:=by
   rw [sR hi,lN]; rfl
  rw [<- fe] at gi;simp only [ge] at gi;refine⟨_,_,rfl,rfl,?_⟩;have gr:∀ K:Ks,CL 2 (bK (ah 3) (bj) (cE (ah 0))) (bK (ah 3) (cE (ah 0)) (bj)) K [‹.int m›,‹.tup (t.map .tup)›,some (.nest (dh ((fs m (t.take i)).map fun f=>(kq f,.lst ((gp m (t.take i) f).map .tup))))),‹.tup t[i]›]=K.nx [‹.int m›,‹.tup (t.map .tup)›,some (.nest (dh ((fs m (t.take (i+1))).map fun f=>(kq f,.lst ((gp m (t.take (i+1)) f).map .tup))))),‹.tup t[i]›]:=fun K=>by
   generalize hal:((fs m (t.take i)).map fun f=>(kq f,D.lst ((gp m (t.take i) f).map .tup)))=al at gi;have all:al.length<=t.length:=(by rw [<- hal,Pr]; omega);have g2:yn (encK al) (al.map (·.2)) (.tup (t[i].take m)) (.tup (t[i].drop m))=some ((fs m (t.take (i+1))).map fun f=>(kq f,.lst ((gp m (t.take (i+1)) f).map .tup))):=by
    unfold yn;rw [kX];show (jH (.tup (t[i].take m))).bind _=_
    have:t[i].take m=(kq (t[i].take m)).map bz:=(rk (fsh _ rm)).symm
    rw [this,o5];show (if small al.length then _ else _)=_;rw [if_pos (dM ‹0›)];exact gi
   have k1:bK (ah 3) (bj) (cE (ah 0)) [‹.int m›,‹.tup (t.map .tup)›,some (.nest (dh al)),‹.tup t[i]›]=.ok (.tup (t[i].take m)):=by
    generalize dh al=Z;simp! only [mZ]
   have k2:bK (ah 3) (cE (ah 0)) (bj) [‹.int m›,‹.tup (t.map .tup)›,some (.nest (dh al)),‹.tup t[i]›]=.ok (.tup (t[i].drop m)):=by
    generalize dh al=Z;simp! only [ui]
   show (((Ci _).bind fun q=>(Ci _).bind fun v=>rO (yn (encK al) (al.map (·.2)) q v)).bind _)=_;rw [k1,k2,iZ,dE,iZ,dE,g2,eU,dE]; rfl
  generalize dh ((fs m (t.take (i+1))).map fun f=>(kq f,.lst ((gp m (t.take (i+1)) f).map .tup)))=Y at gr ⊢;generalize dh ((fs m (t.take i)).map fun f=>(kq f,.lst ((gp m (t.take i) f).map .tup)))=Z at gr ⊢;simp! only [gr]
 ·rintro ρ' rfl;rw [Pr,Qs,hT];generalize hal:((fs m t).map fun f=>(kq f,D.lst ((gp m t f).map .tup)))=al;have all:al.length<=t.length:=by rw [<- hal,Pr]; omega
  have fz:∀ (F:cw) (K:Ks),vD 2 F K [‹.int m›,‹.tup (t.map .tup)›,some (.nest (dh al)),none]=F K [‹.int m›,‹.tup (t.map .tup)›,‹oU al›,none]:=fun F K=>by
   show F K (match j9 (encK al) (al.map (·.2)) with | some al=>setV 2 (oU al) _ | none=>_)=_;rw [kX]; rfl
  have knd:=Bd (m:=m) (σ:=σ) (fs m t) (yt m t) fsL (fun f=>.tup ((gp m t f).map .tup));have pr:=sM ((fs m t).map fun f=>(kq f,D.tup ((gp m t f).map .tup)));have df:tO [.lst (((fs m t).map fun f=>(kq f,D.tup ((gp m t f).map .tup))).map me)]=some (oU ((fs m t).map fun f=>(kq f,.tup ((gp m t f).map .tup)))):=by
   show (iR _).bind _=_;rw [pr];show (if small _ then _ else _)=_;rw [if_pos (dM (by rw [Pr]; omega))]
   have:=xB ((fs m t).map fun f=>(kq f,D.tup ((gp m t f).map .tup))) [] knd
   unfold vJ;rw [this]; rfl
  have it:=yK al;have lc:kP [none,none] (lW (ah 2)) (gT 2 (uB [0,1])) (dZ) (cy (af (ah 0) (af (fL cQ (af (ah 1) (au))) (au)))) [‹.int m›,‹.tup (t.map .tup)›,‹oU al›,none]=.ok (.lst (((fs m t).map fun f=>(kq f,D.tup ((gp m t f).map .tup))).map me)):=by
   refine ip (ds:=al.map me) ?_ (by rw [Pr]; omega) ?_
   ·show ((ah 2 _).bind _)=_;generalize oU al=Z at it;simp! only [it]
   ·rw [<- hal,Q0,Q0];refine li _ _ (fs m t) fun f hf=>?_;refine⟨[‹.tup ((kq f).map bz)›,‹.lst ((gp m t f).map .tup)›],rfl,rfl,?_⟩;simp! only [yf];rfl
  generalize oU al=Z at lc fz;generalize dh al=Z0 at fz ⊢;generalize oU ((fs m t).map fun f=>(kq f,D.tup ((gp m t f).map .tup)))=Y at df ⊢;simp! only [fz,lc,df]
theorem Tab.ALt (T:Tab σ t):AL 6 (.tup (t.map .tup)):=by
 have:=T.ln
 refine AL.tup (by rw [Pr]; omega) fun v hv=>?_;obtain⟨r,hr,rfl⟩:=List.mem_map.mp hv
 have:=(T.rl r hr).1
 exact AL.tup ‹0› (T.al r hr)
end
end
section
open Classical
variable {σ τ:List Bool} {t:List (List D)} {m:Nat}
theorem tB {T:List (List D)} (hs:∀ r∈T,Sh τ (r.take m)) (h:zY m T):T.Pairwise fun a b=>a.take m≠b.take m :=
 List.Pairwise.imp_of_mem (fun {a b} ha hb e z=>by rw [z,lH (hs b hb)] at e; cases e) h
structure So (τ:List Bool) (m:Nat) (L:List (List D)):Prop where
 t0:τ≠[]
 hm:m=τ.length
 sh:∀ r∈L,Sh τ (r.take m)
 pw:L.Pairwise fun a b=>a.take m≠b.take m
 ln:L.length < 64
theorem So.nd {L:List (List D)} (h:So τ m L):L.Nodup:=h.pw.imp fun {a b} ne e=>ne (by rw [e])
theorem So.srt {L:List (List D)} (h:So τ m L):∃ T:List (List D),zY m T/\T.Perm L :=
 ⟨iX (fun r=>r.take m) L,nD (key:=fun r:List D=>r.take m) (σ:=τ) h.sh h.pw,gf _ _⟩
theorem xR {A B:List (List D)} (hA:∀ r∈A,Sh τ (r.take m)) (a:zY m A) (b:zY m B) (p:B.Perm A):A=B:=by
 have h1:=mY (key:=fun r:List D=>r.take m) (σ:=τ) hA (tB hA a) a (List.Perm.refl _);have h2:=mY (key:=fun r:List D=>r.take m) (σ:=τ) hA (tB hA a) b p;exact h1.symm.trans h2
theorem So.law {L T:List (List D)} (h:So τ m L) (r:zY m T) (p:T.Perm L):aG bi 2 4 [.int m,.lst (L.map .tup)]=.ok (.tup (T.map .tup)):=by
 obtain⟨t,et,ri,t1,t2,t3⟩:=qA h.t0 h.hm L h.sh h.ln;have tsh:∀ r∈t,Sh τ (r.take m):=fun r hr=>h.sh r (t1 r hr);have inj:∀ a∈L,∀ b∈L,a.take m=b.take m->a=b:=fun a ha b hb e=>by
  by_cases z:a=b
  ·exact z
  ·have:=h.pw
   rw [List.pairwise_iff_forall_sublist] at this;obtain⟨i,hi,rfl⟩:=Qn ha;obtain⟨j,hj,rfl⟩:=Qn hb;rcases Nat.lt_trichotomy i j with q | q | q
   ·exact absurd e (List.pairwise_iff_getElem.mp h.pw i j hi hj q)
   ·subst q; rfl
   ·exact absurd e.symm (List.pairwise_iff_getElem.mp h.pw j i hj hi q)
 have pe:t.Perm L:=(List.perm_ext_iff_of_nodup ((tB tsh ri).imp fun {a b} ne e=>ne (by rw [e])) h.nd).mpr fun a=>⟨t1 a,fun ha=>by
  obtain⟨b,hb,e⟩:=t3 a ha;rw [<- inj b (t1 b hb) a ha e]; exact hb⟩
 rw [et,xR tsh ri r (p.trans pe.symm)]
theorem So.prog {L T:List (List D)} (h:So τ m L) (r:zY m T) (p:T.Perm L):aG iE 2 2 [.int m,.lst (L.map .tup)]=.ok (.tup (T.map .tup)):=by
 have k:KO m (L.map .tup):=⟨by rw [Pr]; exact h.ln,τ,h.t0,fun x hx=>by
  obtain⟨r,hr,rfl⟩:=List.mem_map.mp hx;exact⟨r,rfl,h.sh r hr⟩,List.pairwise_map.mpr h.pw⟩
 have so:iX (uT m) (L.map .tup)=T.map .tup:=by
  refine mY (σ:=τ) (fun x hx=>?_) ?_ ?_ (p.map _)
  ·obtain⟨r,hr,rfl⟩:=List.mem_map.mp hx;exact h.sh r hr
  ·exact List.pairwise_map.mpr h.pw
  ·exact List.pairwise_map.mpr r
 have e:p6 (.lst (L.map .tup)) (.int m)=some (.lst (T.map .tup)):=by
  show (if (0:Int)<=(m:Int) then sX ((m:Int)).toNat (L.map .tup) else none)=_;rw [if_pos ‹0›,PL];unfold sX;rw [if_pos k,so]
 rw [eR];unfold iE;simp! only [e]
abbrev rX (k:List D):List D:=k++[.tup []]
noncomputable def Nn (m:Nat) (s:List (List D)):List (List D):=(fs m s).map (iT m s)
theorem HJ (m:Nat) (s:List (List D)):vw m s=.tup ((Nn m s).map .tup):=by unfold vw Nn; rw [Q0]; rfl
noncomputable def isE (m:Nat) (r:List D):Bool:=decide (r[m]?=some (.tup []))
theorem Eh {k:List D} (h:Sh τ k) (hm:m=τ.length):isE m (rX k)=true:=by
 have:=h.length
 exact decide_eq_true (by rw [show m=k.length by omega,PB (Ph _),QL]; rfl)
theorem j7 {k:List D} (h:Sh τ k) (hm:m=τ.length):(rX k).take m=k:=by
 have:=h.length
 rw [show m=k.length by omega,Rc]
theorem xJ {f:List D} (h:f.length=m) (s:List (List D)):(iT m s f)[m]?=some (.tup ((gp m s f).map .tup)):=by
 unfold iT;rw [PB ‹0›,show m - f.length=0 by omega]; rfl
theorem nR {f:List D} (h:f.length=m) (s:List (List D)):(iT m s f).take m=f:=by
 unfold iT;rw [<- h,Rc]
noncomputable def un (m:Nat) (r:List D):List (List D):=match r[m]? with
 | some (.tup w)=>w.map fun d=>r.take m++eD d
 | _=>[]
structure NT (τ:List Bool) (m c:Nat) (s T:List (List D)):Prop where
 ri:zY m T
 row:∀ r∈T,r∈Nn m s\/∃ k,Sh τ k/\r=rX k
 fl:T.filter (fun r=>!isE m r)=Nn m s
 el:(T.filter (isE m)).length<=c
section
variable {s:List (List D)} {c:Nat}
theorem EW (T:Tab σ s) (hm:m<=σ.length) {r:List D} (h:r∈Nn m s):∃ f∈fs m s,f.length=m/\Sh (σ.take m) f/\r=iT m s f/\gp m s f≠[]:=by
 obtain⟨f,hf,rfl⟩:=List.mem_map.mp h;refine⟨f,hf,Jc T hm f hf,tU s (T.fsh hm) f hf,rfl,fun z=>?_⟩;obtain⟨r,hr,e⟩:=(mE m).mp hf;unfold gp at z
 have:=List.map_eq_nil_iff.mp z
 exact List.filter_eq_nil_iff.mp this r hr (decide_eq_true e)
theorem HL (T:Tab σ s) (hm:m<=σ.length) {r:List D} (h:r∈Nn m s):isE m r=false:=by
 obtain⟨f,hf,fl,_,rfl,g0⟩:=EW T hm h;refine decide_eq_false fun z=>?_;rw [xJ fl] at z;injection z with z;injection z with z;exact g0 (List.map_eq_nil_iff.mp z)
theorem JB (T:Tab σ s) (hm:m<=σ.length) {r:List D} (h:r∈Nn m s):Sh (σ.take m) (r.take m):=by
 obtain⟨f,hf,fl,sh,rfl,g0⟩:=EW T hm h;rw [nR fl]; exact sh
theorem DP (T:Tab σ s) (hm:m<=σ.length):(Nn m s).map (fun r=>r.take m)=fs m s:=by
 unfold Nn;rw [Q0]
 conv=>rhs; rw [<- RB (fs m s)]
 exact Qp fun f hf=>nR (Jc T hm f hf) s
theorem GJ (T:Tab σ s) (hm:m<=σ.length):zY m (Nn m s):=by
 have h:=(zC m rfl T.sh hm T.ri).1;rw [<- DP T hm] at h;exact List.pairwise_map.mp h
theorem Et (T:Tab σ s):(Nn m s).length<=50:=by
 have:=oT m s
 have:=T.ln
 unfold Nn; rw [Pr]; omega
theorem NT.new (T:Tab σ s) (hm:m<=σ.length):NT (σ.take m) m 0 s (Nn m s) :=
 ⟨GJ T hm,fun r h=>.inl h,List.filter_eq_self.mpr fun r h=>by rw [HL T hm h]; rfl,by
  rw [List.filter_eq_nil_iff.mpr fun r h=>by rw [HL T hm h]; simp]; exact Pu _⟩
variable {TT:List (List D)}
theorem NT.sh (N:NT (σ.take m) m c s TT) (T:Tab σ s) (hm:m<=σ.length):∀ r∈TT,Sh (σ.take m) (r.take m):=fun r h=>by
 rcases N.row r h with z | ⟨k,sk,rfl⟩
 ·exact JB T hm z
 ·rw [j7 sk (by rw [Pz]; omega)]; exact sk
theorem NT.len (N:NT (σ.take m) m c s TT) (T:Tab σ s):TT.length<=50+c:=by
 have p:=(List.filter_append_perm (isE m) TT).length_eq;rw [PK,N.fl] at p
 have:=N.el
 have:=Et (m:=m) T
 omega
theorem NT.so (N:NT (σ.take m) m c s TT) (T:Tab σ s) (m1:1<=m) (hm:m<=σ.length) (hc:c<=7):So (σ.take m) m TT :=
 ⟨fun z=>by have:=congrArg List.length z; rw [Pz,P0] at this; omega,by rw [Pz]; omega,N.sh T hm,tB (N.sh T hm) N.ri,by have:=N.len T; omega⟩
theorem NT.add (N:NT (σ.take m) m c s TT) (T:Tab σ s) (m1:1<=m) (hm:m<=σ.length) (es:List (List D)) (he:∀ k∈es,Sh (σ.take m) k) (nd:es.Nodup) (hn:∀ k∈es,∀ r∈TT,r.take m≠k) (hc:c+es.length<=7):∃ T',NT (σ.take m) m (c+es.length) s T'/\aG bi 2 4 [.int m,.lst ((TT++es.map rX).map .tup)]=.ok (.tup (T'.map .tup)):=by
 have ml:m=(σ.take m).length:=by rw [Pz]; omega
 have so:=N.so T m1 hm ‹0›;have sh':∀ r∈TT++es.map rX,Sh (σ.take m) (r.take m):=fun r h=>by
  rcases List.mem_append.mp h with z | z
  ·exact so.sh r z
  ·obtain⟨k,hk,rfl⟩:=List.mem_map.mp z;rw [j7 (he k hk) ml]; exact he k hk
 have S:So (σ.take m) m (TT++es.map rX):=⟨so.t0,ml,sh',List.pairwise_append.mpr ⟨so.pw,List.pairwise_map.mpr (List.Pairwise.imp_of_mem (fun {a b} ha hb ne=>by rw [j7 (he a ha) ml,j7 (he b hb) ml]; exact ne) nd),fun a ha b hb=>by
  obtain⟨k,hk,rfl⟩:=List.mem_map.mp hb;rw [j7 (he k hk) ml]; exact hn k hk a ha⟩,by rw [PK,Pr]; have:=N.len T; omega⟩
 obtain⟨T',r,p⟩:=S.srt;have emE:∀ x∈es.map rX,isE m x=true:=fun x hx=>by
  obtain⟨k,hk,rfl⟩:=List.mem_map.mp hx;exact Eh (he k hk) ml
 refine⟨T',⟨r,fun x hx=>?_,?_,?_⟩,S.law r p⟩
 ·rcases List.mem_append.mp (p.mem_iff.mp hx) with z | z
  ·exact N.row x z
  ·obtain⟨k,hk,rfl⟩:=List.mem_map.mp z;exact .inr ⟨k,he k hk,rfl⟩
 ·have q:=p.filter (fun r=>!isE m r);have e0:(es.map rX).filter (fun r=>!isE m r)=[]:=List.filter_eq_nil_iff.mpr fun x hx=>by rw [emE x hx]; simp
  rw [Rt,N.fl,e0,Pw] at q;exact(xR (fun r h=>JB T hm h) (GJ T hm) (r.filter _) q).symm
 ·have q:=(p.filter (isE m)).length_eq;rw [Rt,PK] at q
  have:=N.el
  have:=RE (isE m) (es.map rX)
  rw [Pr] at this;omega
theorem FC (N:NT (σ.take m) m c s TT) (T:Tab σ s) (hm:m<=σ.length):TT.flatMap (un m)=s:=by
 have ml:m=(σ.take m).length:=by rw [Pz]; omega
 have h1:∀ L:List (List D),(∀ r∈L,r∈TT)->L.flatMap (un m)=(L.filter fun r=>!isE m r).flatMap (un m):=fun L=>by
  induction L with
  | nil=>intro _; rfl
  | cons r L ih =>
   intro hL;have i:=ih fun x hx=>hL x (O7 _ hx);rw [Ru,i];cases e:isE m r with
   | false=>rw [QV (by rw [e]; rfl),Ru]
   | true =>
    rw [QW (by rw [e]; simp)]
    have:un m r=[]:=by
     unfold un;rw [of_decide_eq_true e]; rfl
    rw [this]; rfl
 rw [h1 TT fun _ h=>h,N.fl];have fi:=Gb m rfl T.sh hm T.ri;unfold flat at fi
 conv=>rhs; rw [<- fi]
 unfold Nn;rw [List.flatMap_map]
 have:∀ L:List (List D),(∀ f∈L,f∈fs m s)->(L.flatMap fun f=>un m (iT m s f))=L.flatMap fun f=>(gp m s f).map (f++·):=fun L=>by
  induction L with
  | nil=>intro _; rfl
  | cons f L ih =>
   intro hL;rw [Ru,Ru,ih fun x hx=>hL x (O7 _ hx)];congr 1;have fl:=Jc T hm f (hL f O6);unfold un;rw [xJ fl,nR fl];show ((gp m s f).map D.tup).map _=_;rw [Q0]; rfl
 exact this _ fun _ h=>h
end
end
theorem Ep (x:Int) (h0:0<=x) (h1:x < 2147490000):∃ y:Int,0<=y/\y < 2147483647/\aG aM 1 1 [.int x]=.ok (.int y):=by
 have m1:=lw (i:=x) (j:=x) ‹0› ‹0›;have m2:=lw (i:=48271) (j:=x) (by decide) (by decide);have g:=gm 2147483647;refine⟨(x*x+48271*x+11)%2147483647,Rl _ (by decide),Rm _ (by decide),?_⟩;rw [oS]; unfold aM;simp! only [m1,m2,g]
theorem Jg (xs:List D):pN [.lst xs]=some (.lst xs):=nr rfl
theorem Jm (xs:List D):pN [.tup xs]=some (.lst xs):=nr rfl
theorem MJ {r:List D} {m:Nat} {d:D} (h:r[m]?=some d):aW (.tup r) (.int m)=some d:=by
 have hl:=cM h;rw [JK,rN (Pk _) ‹0›];rw [Qj hl] at h;exact h
section
open Classical
variable {σ τ:List Bool} {s v TT:List (List D)} {m c:Nat}
theorem D6 {k:List D} {ks:List (List D)} (hk:Sh τ k) (hs:∀ x∈ks,Sh τ x):wN (.tup k) (.lst (ks.map .tup))=some (.bl (decide (k∉ks))):=by
 have e:wN (.tup k) (.lst (ks.map .tup))=if (pl (.tup k) && oF (ks.map .tup)) && fK 8 (.tup k) then some (.bl (!inD (.tup k) (ks.map .tup))) else none:=rfl
 have d:fK 8 (.tup k)=true:=by show k.all (fK 7)=true; exact xt 6 hk
 have p:oF (ks.map .tup)=true:=Fg fun x hx=>by
  obtain⟨r,hr,rfl⟩:=List.mem_map.mp hx;rw [d9]; exact vq (hs r hr)
 rw [e,d9,vq hk,d,p,Ql,Ql,if_pos rfl];congr 2;have q:inD (.tup k) (ks.map .tup)=true↔k∈ks:=by
  unfold inD;rw [Rz];constructor
  ·rintro⟨x,hx,ex⟩;obtain⟨r,hr,rfl⟩:=List.mem_map.mp hx;rw [pyEq] at ex;rw [<- (sU (hs r hr) hk).mp ex]; exact hr
  ·intro h;exact⟨.tup k,List.mem_map.mpr ⟨k,h,rfl⟩,oo _⟩
 by_cases h:k∈ks
 ·rw [q.mpr h,decide_eq_false (fun z=>z h)]; rfl
 ·rw [decide_eq_true h];cases z:inD (.tup k) (ks.map .tup) with
  | false=>rfl
  | true=>exact absurd (q.mp z) h
theorem NT.w (N:NT (σ.take m) m c s TT) (T:Tab σ s) (hm:m<=σ.length):∀ r∈TT,r.length=m+1/\r.take m++r.drop m=r/\(r.take m).length=m/\∃ ws:List (List D),r[m]?=some (.tup (ws.map .tup))/\un m r=ws.map (r.take m++·)/\ws.length<=50/\(∀ w∈ws,w.length<=16)/\(∀ w∈ws,∀ x∈w,AL 4 x)/\isE m r=decide (ws.map D.tup=[]):=fun r hr=>by
 have ml:m=(σ.take m).length:=by rw [Pz]; omega
 have key:∀ ws:List (List D),r[m]?=some (.tup (ws.map .tup))->un m r=ws.map (r.take m++·)/\isE m r=decide (ws.map D.tup=[]):=fun ws h=>by
  constructor
  ·unfold un;rw [h];show (ws.map D.tup).map _=_;rw [Q0]; rfl
  ·unfold isE;rw [h];by_cases z:ws.map D.tup=[]
   ·rw [z,decide_eq_true rfl,decide_eq_true rfl]
   ·rw [decide_eq_false z,decide_eq_false fun y=>z (by injection y with y; injection y)]
 rcases N.row r hr with z | ⟨k,sk,rfl⟩
 ·obtain⟨f,hf,fl,fsh,rfl,g0⟩:=EW T hm z;have f16:=EI T f hf;have at_:=xJ fl s;obtain⟨k1,k2⟩:=key _ at_;refine⟨by unfold iT; rw [PK,PR,fl],Ry _ _,by rw [nR fl,fl],gp m s f,at_,k1,?_,fun w hw=>?_,fun w hw=>?_,k2⟩
  ·have:=Dp m s f
   have:=T.ln
   omega
  ·unfold gp at hw;obtain⟨r,hr,rfl⟩:=List.mem_map.mp hw
   have:=(T.rl r (List.mem_filter.mp hr).1).1
   rw [PN]; omega
  ·unfold gp at hw;obtain⟨r,hr,rfl⟩:=List.mem_map.mp hw;exact fun x hx=>T.al r (List.mem_filter.mp hr).1 x (RG hx)
 ·have kl:=sk.length;have at_:(rX k)[m]?=some (.tup (([]:List (List D)).map .tup)):=of_decide_eq_true (Eh sk ml);obtain⟨k1,k2⟩:=key [] at_;exact⟨by rw [PK,PR]; omega,Ry _ _,by rw [j7 sk ml]; omega,[],at_,k1,by decide,(fun _ h=>nomatch h),(fun _ h=>nomatch h),k2⟩
theorem xg (N:NT (σ.take m) m c s TT) (T:Tab σ s) (hm:m<=σ.length) (m8:m<=8) (hc:c<=7):aG jy 2 4 [.int m,.tup (TT.map .tup)]=.ok (.tup (s.map .tup)):=by
 have fl:=N.len T;have tl:=T.ln;have fi:=FC N T hm;rw [eR]; unfold jy;simp! only [JW];refine fA (Q:=fun z=>z=.ok (.tup (s.map .tup))) (fun i ρ=>ρ=[‹.int m›,‹.tup (TT.map .tup)›,some (.own (.lst (((TT.take i).flatMap (un m)).map .tup))),none]) ?_ rfl ?_
 ·rintro i d ρ kk hd rfl;have hi:=cM hd;rw [Pr] at hi;rw [PF,Qj hi] at hd;cases hd;obtain⟨r,er⟩:∃ r,r=TT[i]:=⟨_,rfl⟩
  have rm:r∈TT:=by rw [er]; exact QX hi
  rw [<- er];obtain⟨w1,w2,w3,ws,w4,w5,w6,w7,w8,w9⟩:=N.w T hm r rm;have ix:=MJ w4;have ct:cutD r none (some (m:Int))=r.take m:=mZ _ _;generalize hA:(((TT.take i).flatMap (un m)).map D.tup)=A;have al:A.length<=s.length:=by
   rw [<- hA,Pr]
   conv=>rhs; rw [<- fi,<- Ry i TT,Rv,PK]
   omega
  have lc:kP [none,some 3,some 0] (bZ (f2 aW (ah 3) (ah 0))) (gN 0) (dZ) (f2 cj (bK (ah 1) (bj) (cE (ah 2))) (ah 0)) [‹.int m›,‹.tup (TT.map .tup)›,some (.own (.lst A)),‹.tup r›]=.ok (.lst ((un m r).map .tup)):=by
   refine ip (ds:=ws.map .tup) (by simp! only [ix]) (by rw [Pr]; omega) ?_
   have:=li (ρ:=inB [none,some 3,some 0] [‹.int m›,‹.tup (TT.map .tup)›,some (.own (.lst A)),‹.tup r›]) (g:=gN 0) (C:=dZ) (Fe:=f2 cj (bK (ah 1) (bj) (cE (ah 2))) (ah 0)) D.tup (fun w=>.tup (r.take m++w)) ws fun w hw=>by
    have ad:=fS (r.take m) w (by have:=w7 w hw; omega);refine⟨[‹.tup w›,‹.tup r›,‹.int m›],rfl,rfl,?_⟩;simp! only [ct,ad]
   rw [this,w5,Q0]; rfl
  refine⟨_,_,rfl,rfl,?_⟩;have ul:(un m r).length<=50:=by rw [w5,Pr]; exact w6
  have e1:((TT.take (i+1)).flatMap (un m)).map D.tup=A++(un m r).map .tup:=by
   rw [RC hi,<- er,Rv,Qq,hA,Rw]
  rw [e1];have ex:∀ K:Ks,EE 2 (kP [none,some 3,some 0] (bZ (f2 aW (ah 3) (ah 0))) (gN 0) (dZ) (f2 cj (bK (ah 1) (bj) (cE (ah 2))) (ah 0))) K [‹.int m›,‹.tup (TT.map .tup)›,some (.own (.lst A)),‹.tup r›]=K.nx [‹.int m›,‹.tup (TT.map .tup)›,some (.own (.lst (A++(un m r).map .tup))),‹.tup r›]:=fun K=>by
   show uA _ K _ _=_;rw [lc,qX];show (if small _ then _ else _)=_;rw [if_pos (dM (by rw [Pr]; omega))]; rfl
  generalize A++(un m r).map .tup=Y at ex ⊢;simp! only [ex]
 ·rintro ρ' rfl;rw [Pr,Qs,fi];simp! only []
noncomputable def kp (m:Nat) (v TT:List (List D)):List (List D):=(TT.filter (isE m)).filter fun r=>decide (r.take m∉fs m v)
end
abbrev o0 (nm:Str):D:=.obj "Unnest" ["name"] [.str nm]
theorem ww {nm:Str} (w:Str) (g1 g2:List D->R D) (fo:FX) (fas:aq->R (List D)) (ρ:aq) (h:fo ρ=.ok (o0 nm)) (hm:(["name"]:List Str).contains w=false):cq w [("Step",g1),("Unnest",g2)] fo fas ρ=(fas ρ).bind fun as=>g2 (o0 nm::as):=by
 unfold cq;rw [h,dE];have h1:(("Unnest":Str)==("Step":Str))=false:=by decide +kernel
 have:List.lookup ("Unnest":Str) [(("Step":Str),g1),(("Unnest":Str),g2)]=some g2:=by
  rw [P7,h1,P7,BEq.rfl]
 simp only [this,hm];rfl
theorem MP:(["name"]:List Str).contains "put"=false:=by decide +kernel
theorem MF:(["name"]:List Str).contains "got"=false:=by decide +kernel
theorem Kl:(["name"]:List Str).contains "exact"=false:=by decide +kernel
theorem M4:(["name"]:List Str).contains "steady"=false:=by decide +kernel
theorem M7:(["name"]:List Str).contains "view_form"=false:=by decide +kernel
theorem NZ:(["name"]:List Str).contains "words"=false:=by decide +kernel
theorem Hl (c:Str) (a:Str) (fas:aq->R (List D)) (ρ:aq):fNew c [a] fas ρ=(fas ρ).bind fun as=>if as.length=1 then .ok (.obj c [a] as) else TG.un:=nr rfl
section
open Classical
variable {σ τ:List Bool} {s v TT:List (List D)} {m c:Nat}
theorem NT.le {c':Nat} (N:NT τ m c s TT) (h:c<=c'):NT τ m c' s TT:=⟨N.ri,N.row,N.fl,O2 N.el h⟩
theorem NT.AL (N:NT (σ.take m) m c s TT) (T:Tab σ s) (hm:m<=σ.length) (m8:m<=8) (hc:c<=7):T4.AL 8 (.tup (TT.map .tup)):=by
 have:=N.len T
 refine AL.tup (by rw [Pr]; omega) fun x hx=>?_;obtain⟨r,hr,rfl⟩:=List.mem_map.mp hx;obtain⟨w1,w2,w3,ws,w4,w5,w6,w7,w8,w9⟩:=N.w T hm r hr;refine AL.tup ‹0› fun x hx=>?_;have e:r=r.take m++[.tup (ws.map .tup)]:=by
  conv=>lhs; rw [<- Ry m r]
  congr 1;rw [Qv ‹0›,Rb ‹0›];rw [Qj ‹0›] at w4;rw [Option.some.inj w4]
 rw [e] at hx;rcases List.mem_append.mp hx with z | z
 ·exact AL.of0 (vR (N.sh T hm r hr) x z) _
 ·rw [List.mem_singleton.mp z];refine AL.tup (by rw [Pr]; omega) fun y hy=>?_;obtain⟨w,hw,rfl⟩:=List.mem_map.mp hy;exact AL.tup (by have:=w7 w hw; omega) (w8 w hw)
theorem Gi:Tab σ []:=⟨(fun _ h=>nomatch h),List.Pairwise.nil,by decide,(fun _ h=>nomatch h),(fun _ h=>nomatch h)⟩
theorem IR:NT (σ.take m) m 0 [] []:=⟨List.Pairwise.nil,(fun _ h=>nomatch h),rfl,Ph _⟩
theorem zA (N:NT (σ.take m) m c s TT) (T:Tab σ s) (hm:m<=σ.length) (m8:m<=8) (hc:c<=7) (o f0:D) (kk:List D) (f1:D) (hk:kk.length=m) (hf:f0=.tup [.tup kk,f1]):aG bo 3 3 [o,f0,.tup (TT.map .tup)]=.ok (.tup (s.map .tup)):=by
 have u:=xg N T hm m8 hc;rw [qO]; unfold bo;subst hf;simp! only [hk,u]
end
section
open Classical
variable {σ τ:List Bool} {s v TT:List (List D)} {m c:Nat}
theorem Hm (T:Tab σ s) (m1:1<=m) (hm:m<=σ.length) (ks:KL) (k8:ks.length<=8) (hk:∀ p∈ks,p.2.gd) (hs:σ.take m=ks.map (·.2.b)) (km:ks.length=m) (f1:D) (xs:List Int) (hx:∀ x∈xs,0<=x/\x < 2147483700) (xl:xs.length<=5) :
  ∃ T',NT (σ.take m) m 5 s T'/\aG dR 3 7 [.tup [.tup (ks.map kf),f1],.tup ((Nn m s).map .tup),.lst (xs.map .int)]=.ok (.tup (T'.map .tup)):=by
 have nl:=Et (m:=m) T;have fsL:=tU s (T.fsh hm);have fl:=oT m s;have tl:=T.ln;have kl:(ks.map kf).length=m:=by rw [Pr]; exact km
 have N:=NT.new T hm;have lc:∀ a2 a3 a4 a5 a6:Option S,kP [none] (bZ (ah 1)) (gN 0) (dZ) (bK (ah 0) (bj) (cE (C6 (fC (.int 1))))) [‹.tup [.tup (ks.map kf),f1]›,‹.tup ((Nn m s).map .tup)›,a2,a3,a4,a5,a6]=.ok (.lst ((fs m s).map .tup)):=fun a2 a3 a4 a5 a6=>by
  refine ip (ds:=(Nn m s).map .tup) (by simp! only []) (by rw [Pr]; omega) ?_;unfold Nn;rw [Q0];refine li _ D.tup (fs m s) fun f hf=>⟨[‹.tup (iT m s f)›],rfl,rfl,?_⟩
  have ct:cutD (iT m s f) none (some (-1))=f:=EZ _ _;simp! only [ct]
 obtain⟨REST,hR⟩:∃ F:cw,F=(iO 3 (bG (fR (aG bi 2 4) (af (fL ic (af (f2 aW (ah 0) (fC (.int 0))) (au))) (af (ah 3) (au)))))):=⟨_,rfl⟩
 rw [qO]; unfold dR;rw [<- hR];simp! only [Jm,lc];refine fA (Q:=fun z=>∃ T',NT (σ.take m) m 5 s T'/\z=.ok (.tup (T'.map .tup))) (fun i ρ=>∃ es:List (List D),es.length<=i/\es.Nodup/\(∀ k∈es,Sh (σ.take m) k/\k∉fs m s)/\ρ=[‹.tup [.tup (ks.map kf),f1]›,none,‹.lst (xs.map .int)›,some (.own (.lst ((Nn m s++es.map rX).map .tup))),some (.own (.lst ((fs m s++es).map .tup))),none,none]) ?_ ⟨[],Ph _,P6,(fun _ h=>nomatch h),by rw [PX,Pw,Pw]⟩ ?_
 ·rintro i d ρ kk hd ⟨es,el,nd,he,rfl⟩;have hi:=cM hd;rw [Pr] at hi;rw [PF,Qj hi] at hd;cases hd;obtain⟨x0,x1⟩:=hx _ (QX hi);generalize xs[i]=x at x0 x1;obtain⟨vs,ev,v1,v2,v3⟩:=zO 0 18 (ut 0 19 ‹0›) ks [] k8 (by simp) hk (fun _ h=>nomatch h) 0 0 x (by decide) (by decide) x0 x1;have ev:aF 20 [.tup [.tup (ks.map kf),.tup []],.int 0,.int 0,.int x]=.ok (.tup vs):=ev;have vl:vs.length=ks.length:=by rw [v1]; rfl
  have vsh:Sh (σ.take m) vs:=by
   rw [Q4 ‹0›] at v2;rw [hs]; exact v2
  have ni:=D6 vsh (ks:=fs m s++es) fun k h=>by
   rcases List.mem_append.mp h with z | z
   ·exact fsL k z
   ·exact(he k z).1
  by_cases h:vs∈fs m s++es
  ·rw [decide_eq_false (fun z=>z h)] at ni;refine⟨_,_,rfl,⟨es,by omega,nd,he,rfl⟩,?_⟩;generalize (Nn m s++es.map rX).map D.tup=A;generalize (fs m s++es).map D.tup=B at ni;simp! only [Md,yf,ev,mB,DV,ni]
  ·rw [decide_eq_true h] at ni;refine⟨_,_,rfl,⟨es++[vs],by rw [PK,PR]; omega,List.nodup_append.mpr ⟨nd,by simp,fun a ha b hb e=>?_⟩,fun k hk=>?_,rfl⟩,?_⟩
   ·rw [List.mem_singleton.mp hb] at e;exact h (Pj _ (by rw [<- e]; exact ha))
   ·rcases List.mem_append.mp hk with z | z
    ·exact he k z
    ·rw [List.mem_singleton.mp z];exact⟨vsh,fun y=>h (O8 _ y)⟩
   ·have ap1:gb ((fs m s++es).map .tup) [.tup vs]=some ((fs m s++(es++[vs])).map .tup):=by
     rw [lx (by rw [Pr,PK]; omega),<- Qx,Qq (l₂:=[vs])]; rfl
    have ap2:gb ((Nn m s++es.map rX).map .tup) [.tup (rX vs)]=some ((Nn m s++(es++[vs]).map rX).map .tup):=by
     rw [lx (by rw [Pr,PK,Pr]; omega),Qq (l₁:=es),<- Qx,Qq (l₂:=[vs].map rX)]; rfl
    have ad:cj (.tup vs) (.tup [.tup []])=some (.tup (rX vs)):=fS vs _ (by rw [PR]; omega);have sm1:=fun K:Ks=>kY 4 gb (af (ah 6) (au)) K [‹.tup [.tup (ks.map kf),f1]›,none,‹.lst (xs.map .int)›,some (.own (.lst ((Nn m s++es.map rX).map .tup))),some (.own (.lst ((fs m s++es).map .tup))),‹.int x›,‹.tup vs›] (xs:=(fs m s++es).map .tup) rfl;have sm2:=fun K:Ks=>kY 3 gb (af (f2 cj (ah 6) (cy (af (cy (au)) (au)))) (au)) K [‹.tup [.tup (ks.map kf),f1]›,none,‹.lst (xs.map .int)›,some (.own (.lst ((Nn m s++es.map rX).map .tup))),some (.own (.lst ((fs m s++(es++[vs])).map .tup))),‹.int x›,‹.tup vs›] (xs:=(Nn m s++es.map rX).map .tup) rfl;generalize (Nn m s++es.map rX).map D.tup=A at ap2 sm1 sm2;generalize (Nn m s++(es++[vs]).map rX).map D.tup=A' at ap2;generalize (fs m s++es).map D.tup=B at ni ap1 sm1;generalize (fs m s++(es++[vs])).map D.tup=B' at ap1 sm2;generalize rX vs=Ev at ap2 ad;simp! only [Md,HA,yf,ev,mB,DV,ni,sm1,sm2,ap1,ad,ap2]
 ·rintro ρ' ⟨es,el,nd,he,rfl⟩;rw [Pr] at el;obtain⟨T',N',eT⟩:=N.add T m1 hm es (fun k h=>(he k h).1) nd (fun k h r hr e=>(he k h).2 (by
   rw [<- DP T hm];exact List.mem_map.mpr ⟨r,hr,e⟩)) ‹0›
  refine⟨T',N'.le ‹0›,?_⟩;rw [hR];generalize (Nn m s++es.map rX).map D.tup=A at eT;generalize (fs m s++es).map D.tup=B;simp! only [kl,eT]
end
def AB:Nat->D->Prop
 | 0,d=>(∃ i,d=.int i)\/(∃ x,d=.str x)\/∃ b,d=.bl b
 | n+1,d=>((∃ i,d=.int i)\/(∃ x,d=.str x)\/∃ b,d=.bl b)\/∃ ds,d=.tup ds/\ds.length<=1000/\∀ x∈ds,AB n x
theorem AB.of0 {d:D} (h:AB 0 d):∀ n,AB n d
 | 0=>h
 | _+1=>.inl h
theorem AB.up:∀ {n:Nat} {d:D},AB n d->AB (n+1) d
 | 0,_,h=>.inl h
 | n+1,_,h=>by
  rcases h with h | ⟨ds,e,l,f⟩
  ·exact .inl h
  ·exact .inr ⟨ds,e,l,fun x hx=>AB.up (f x hx)⟩
theorem AB.le {n m:Nat} (h:n<=m) {d:D} (hd:AB n d):AB m d:=by
  induction m with
  | zero => have : n = 0 := by omega
            subst this; exact hd
  | succ m ih =>
    by_cases e:n=m+1
    · subst e; exact hd
    · exact AB.up (ih ‹0›)
theorem AB.tup {n:Nat} {ds:List D} (l:ds.length<=1000) (h:∀ x∈ds,AB n x):AB (n+1) (.tup ds):=.inr ⟨ds,rfl,l,h⟩
theorem AB.str {n:Nat} (x:Str):AB n (.str x):=AB.of0 (.inr (.inl ⟨x,rfl⟩)) n
theorem AB.int {n:Nat} (i:Int):AB n (.int i):=AB.of0 (.inl ⟨i,rfl⟩) n
theorem AB.bl {n:Nat} (b:Bool):AB n (.bl b):=AB.of0 (.inr (.inr ⟨b,rfl⟩)) n
theorem ua (g:Nat) (d:D) (h:AB 0 d):az (g+1) [d,d]=.ok (.bl true):=by
 show aG (eK (az g)) 2 4 [d,d]=_;rw [eR]; unfold eK;rcases h with ⟨i,rfl⟩ | ⟨x,rfl⟩ | ⟨b,rfl⟩
 ·have t2:qt "str" (.int i)=some (.bl false):=rfl;have t3:qt "int" (.int i)=some (.bl true):=rfl;have t4:qt "bool" (.int i)=some (.bl false):=rfl;simp! only [t2,t3,t4,beq_self_eq_true,Ql]
 ·have t2:qt "str" (.str x)=some (.bl true):=rfl;simp! only [t2,beq_self_eq_true,Ql]
 ·have t2:qt "str" (.bl b)=some (.bl false):=rfl;have t4:qt "bool" (.bl b)=some (.bl true):=rfl;simp! only [t2,t4,beq_self_eq_true,Ql]
theorem oh:∀ (n g:Nat) (d:D),n < g->AB n d->az g [d,d]=.ok (.bl true):=by
 intro n
 induction n with
 | zero =>
  intro g d hg hd;obtain⟨g,rfl⟩:∃ g',g=g'+1:=⟨g - 1,by omega⟩
  exact ua g d hd
 | succ n ih =>
  intro g d hg hd;obtain⟨g,rfl⟩:∃ g',g=g'+1:=⟨g - 1,by omega⟩
  rcases hd with h | ⟨ds,rfl,dl,hds⟩
  ·exact ua g d h
  ·show aG (eK (az g)) 2 4 [.tup ds,.tup ds]=_;rw [eR]; unfold eK;have t1:qt "tuple" (.tup ds)=some (.bl true):=rfl;have t2:qt "str" (.tup ds)=some (.bl false):=rfl;have t3:qt "int" (.tup ds)=some (.bl false):=rfl;have t4:qt "bool" (.tup ds)=some (.bl false):=rfl;simp! only [t1,t2,t3,t4,beq_self_eq_true,C5];refine fA (Q:=fun z=>z=.ok (.bl true)) (fun i ρ=>ρ=[‹.tup ds›,‹.tup ds›,none,none]) ?_ rfl ?_
   ·rintro i d ρ kk hd rfl;obtain⟨x,hx,rfl⟩:=zip_get ds i d hd;have ea:=ih g x ‹0› (hds x hx);refine⟨[‹.tup ds›,‹.tup ds›,‹x›,‹x›],_,rfl,rfl,?_⟩;simp! only [ea]
   ·rintro ρ' rfl;rfl
theorem Dz (c:Kd) (h:c.gd):AB 2 c.d:=by
 cases c with
 | num lo hi =>
  exact AB.tup (by simp) fun x hx=>by
   rcases List.mem_cons.mp hx with rfl | hx
   ·exact AB.str _
   ·rcases List.mem_cons.mp hx with rfl | hx
    ·exact AB.int _
    ·rw [List.mem_singleton.mp hx]; exact AB.int _
 | wrd ws =>
  have hl:ws.length<=100:=h.2;exact AB.tup (by simp) fun x hx=>by
   rcases List.mem_cons.mp hx with rfl | hx
   ·exact AB.str _
   ·rw [List.mem_singleton.mp hx];exact AB.tup (by rw [Pr]; omega) fun y hy=>by
     obtain⟨w,_,rfl⟩:=List.mem_map.mp hy;exact AB.str _
theorem wM {n:Nat} {a b:D} (ha:AB n a) (hb:AB n b):AB (n+1) (.tup [a,b]):=AB.tup (by simp) fun x hx=>by
 rcases List.mem_cons.mp hx with rfl | hx
 ·exact ha
 ·rw [List.mem_singleton.mp hx]; exact hb
theorem Bq {n:Nat} {L:List D} (hl:L.length<=1000) (h:∀ d∈L,∃ (w:Str) (k:D),d=.tup [.str w,k]/\AB n k):AB (n+2) (.tup L):=AB.tup hl fun x hx=>by
 obtain⟨w,k,rfl,hk⟩:=h x hx;exact wM (AB.str _) hk
theorem Gn {n:Nat} {f:D} (b:Bool) (hf:AB n f):AB (n+1) (.tup [.str "rows",f,.bl b]):=AB.tup (by simp) fun x hx=>by
 rcases List.mem_cons.mp hx with rfl | hx
 ·exact AB.str _
 ·rcases List.mem_cons.mp hx with rfl | hx
  ·exact hf
  ·rw [List.mem_singleton.mp hx]; exact AB.bl _
theorem Fb {n:Nat} (ks:KL) (qs:List (Str×D)) (k8:ks.length<=8) (q8:qs.length<=8) (hk:∀ p∈ks,p.2.gd) (hq:∀ q∈qs,AB (2+n) q.2):AB (5+n) (fr ks qs):=by
 have e:5+n=(2+n+2)+1:=by omega
 rw [e];refine wM (Bq (by rw [Pr]; omega) fun d hd=>?_) (Bq (by rw [Pr]; omega) fun d hd=>?_)
 ·obtain⟨p,hp,rfl⟩:=List.mem_map.mp hd;exact⟨p.1,p.2.d,rfl,AB.le ‹0› (Dz p.2 (hk p hp))⟩
 ·obtain⟨p,hp,rfl⟩:=List.mem_map.mp hd;exact⟨p.1,p.2,rfl,hq p hp⟩
theorem DF:∀ (n:Nat) (d:D),KG n d->AB (2+4*n) d
 | 0,d,h=>by
  obtain⟨c,hc,rfl⟩:=h;exact Dz c hc
 | n+1,d,h=>by
  rcases h with ⟨c,hc,rfl⟩ | ⟨ks,qs,b,rfl,_,k8,hk,q8,hq⟩
  ·exact AB.le ‹0› (Dz c hc)
  ·have:=Gn b (Fb (n:=4*n) ks qs k8 q8 hk fun q hq'=>DF n _ (hq q hq'))
   exact AB.le ‹0› this
section
open Classical
variable {σ τ:List Bool} {s v TT:List (List D)} {m c:Nat}
theorem Hu (ks is:KL) (jq:List (Str×D)) (nm:Str) (b:Bool) (k8:ks.length<=8) (nd:(ks.map (·.1)++[nm]).Nodup):aG fj 2 4 [pf ks is jq nm b,.str nm]=.ok (.int ks.length)/\aG gh 2 2 [pf ks is jq nm b,.int ks.length]=.ok (.tup [.str "rows",fr is jq,.bl b]):=by
 have em:ks.map kf++[D.tup [.str nm,.tup [.str "rows",fr is jq,.bl b]]]=(ks.map toD++[(nm,D.tup [.str "rows",fr is jq,.bl b])]).map fld:=by rw [Qq,zM]; rfl
 have pl:(ks.map toD++[(nm,D.tup [.str "rows",fr is jq,.bl b])]).length<=100:=by rw [PK,Pr,PR]; omega
 have hi:(ks.map toD++[(nm,D.tup [.str "rows",fr is jq,.bl b])])[ks.length]?=some (nm,.tup [.str "rows",fr is jq,.bl b]):=by
  rw [PB (by rw [Pr]; exact Ph _),Pr,QL]; rfl
 exact⟨zV _ _ _ pl em (by
  rw [Qq,Q0]; exact nd) ks.length nm _ hi,BL _ _ _ pl em ks.length nm _ hi⟩
theorem sr (ks is:KL) (jq:List (Str×D)) (nm:Str) (b:Bool) (k8:ks.length<=8) (nd:(ks.map (·.1)++[nm]).Nodup):aG aN 2 2 [o0 nm,pf ks is jq nm b]=.ok (.bl b):=by
 obtain⟨pp,kp'⟩:=Hu ks is jq nm b k8 nd;have fn:sO "name" ["Unnest"] (o0 nm)=some (.str nm):=by rfl
 rw [eR]; unfold aN;simp! only [fn,pp,kp']
theorem C4 (ks is:KL) (jq:List (Str×D)) (nm:Str) (b:Bool) (k8:ks.length<=8) (nd:(ks.map (·.1)++[nm]).Nodup):aG bV 2 2 [o0 nm,pf ks is jq nm b]=.ok (.bl b):=by
 have ei:=sr ks is jq nm b k8 nd;have m1:∀ (fas:aq->R (List D)) (ρ:aq),ah 0 ρ=.ok (o0 nm)->cq "exact" [("Unnest",(aG aN 2 2))] (ah 0) fas ρ=(fas ρ).bind fun as=>(aG aN 2 2) (o0 nm::as):=fun fas ρ h=>by
  unfold cq;rw [h,dE]
  have:List.lookup ("Unnest":Str) [(("Unnest":Str),(aG aN 2 2))]=some (aG aN 2 2):=by
   rw [P7,BEq.rfl]
  simp only [this,Kl];rfl
 rw [eR]; unfold bV;simp! only [m1,ei]
theorem G0 (V:Tab σ v) (m1:1<=m) (hm:m<=σ.length) (o f0:D) (kk:List D) (f1:D) (hk:kk.length=m) (hf:f0=.tup [.tup kk,f1]) :
  aG de 4 6 [o,f0,.tup [],.tup (v.map .tup)]=.ok (.tup ((Nn m v).map .tup)):=by
 have sp:=((NT.new V hm).so V m1 hm (by decide)).prog (GJ V hm) (List.Perm.refl _);have gi:=AI V hm;have fl:=oT m v;have tl:=V.ln;have fsL:=tU v (V.fsh hm);have it:=yK ((fs m v).map fun f=>(kq f,D.tup ((gp m v f).map .tup)));have nl:=Et (m:=m) V;have lc1:∀ a5,kP [none,none] (lW (fR (aG jn 2 4) (af (ah 4) (af (ah 3) (au))))) (gT 2 (uB [0,1])) (dZ) (f2 cj (ah 0) (cy (af (ah 1) (au)))) [‹o›,‹f0›,‹.tup []›,‹.tup (v.map .tup)›,‹.int m›,a5]=.ok (.lst ((Nn m v).map .tup)):=fun a5=>by
  refine ip (ds:=((fs m v).map fun f=>(kq f,D.tup ((gp m v f).map .tup))).map me) ?_ (by rw [Pr,Pr]; omega) ?_
  ·show (Except.bind _ _)=_;generalize oU ((fs m v).map fun f=>(kq f,D.tup ((gp m v f).map .tup)))=Z at gi it;simp! only [gi,it]
  ·unfold Nn;rw [Q0,Q0];refine li _ _ (fs m v) fun f hf=>?_;have ad:cj (.tup ((kq f).map bz)) (.tup [.tup ((gp m v f).map .tup)])=some (.tup (iT m v f)):=by
    have:=EI V f hf
    rw [rk (fsL f hf)];exact fS f _ (by rw [PR]; omega)
   refine⟨[‹.tup ((kq f).map bz)›,‹.tup ((gp m v f).map .tup)›],rfl,rfl,?_⟩;simp! only [HA,ad];rfl
 have vr:∀ r∈Nn m v,Sh (σ.take m) (r.take m):=fun r h=>JB V hm h;have f2':kP [none,some 0] (bZ (ah 1)) (gN 0) (dZ) (cy (af (bK (ah 0) (bj) (cE (ah 1))) (af (ah 0) (au)))) [‹.int m›,‹.lst ((Nn m v).map .tup)›]=.ok (.lst (((Nn m v).map fun r=>(kq (r.take m),D.tup r)).map me)):=by
  refine ip (ds:=(Nn m v).map .tup) (by simp! only []) (by rw [Pr]; omega) ?_;rw [Q0];refine li D.tup _ (Nn m v) fun r hr=>⟨[‹.tup r›,‹.int m›],rfl,rfl,?_⟩
  simp! only [mZ,yf];show _=Except.ok (D.tup [.tup ((kq (r.take m)).map bz),.tup r]);rw [rk (vr r hr)]
 have knd:(((Nn m v).map fun r=>(kq (r.take m),D.tup r)).map (·.1)).Nodup:=by
  rw [Q0];refine List.pairwise_map.mpr (List.Pairwise.imp_of_mem (fun {a b} ha hb ne e=>ne ?_) (tB vr (GJ V hm)));exact wO (vr a ha) (vr b hb) e
 have gd:wL [.lst (((Nn m v).map fun r=>(kq (r.take m),D.tup r)).map me)]=some (dh ((Nn m v).map fun r=>(kq (r.take m),D.tup r))):=by
  show (iR _).bind _=_;rw [sM];show (if small _ then _ else _)=_;rw [if_pos (dM (by rw [Pr]; omega))];unfold vJ;rw [xB _ [] knd]; rfl
 have bk:aG mP 2 2 [.int m,.lst ((Nn m v).map .tup)]=.ok (dh ((Nn m v).map fun r=>(kq (r.take m),D.tup r))):=by
  rw [eR]; unfold mP;generalize dh ((Nn m v).map fun r=>(kq (r.take m),D.tup r))=Z at gd;simp! only [f2',gd]
 have st:aG jA 3 4 [.int m,.lst ((Nn m v).map .tup),.lst []]=.ok (.tup ((Nn m v).map .tup)):=by
  generalize dh ((Nn m v).map fun r=>(kq (r.take m),D.tup r))=Z at bk;have lc3:kP [none,some 0,some 3] (bZ (ah 2)) (gN 0) (fB (f2 xj (bK (ah 0) (bj) (cE (ah 1))) (ah 2))) (ah 0) [‹.int m›,‹.lst ((Nn m v).map .tup)›,‹.lst []›,‹Z›]=.ok (.lst []):=rfl;have ad:=E6 ((Nn m v).map .tup) [] (by rw [Pr,P0]; omega);rw [Pw] at ad;rw [qO]; unfold jA;simp! only [bk,lc3,Jg,ad,sp]
 have lc2:∀ a3,kP [none,some 4] (bZ (ah 2)) (gN 0) (fB (f2 mj (f2 aW (ah 0) (ah 1)) (cy (au)))) (ah 0) [‹o›,‹f0›,‹.tup []›,a3,‹.int m›,‹.lst ((Nn m v).map .tup)›]=.ok (.lst []):=fun _=>rfl;rw [zI]; unfold de;subst hf;simp! only [hk,lc1,lc2,st]
end
theorem A8:∀ {n:Nat} {d:D},AL n d->AB n d
 | 0,_,h=>by rcases h with h | h; exact .inl h; exact .inr (.inl h)
 | n+1,_,h=>by
  rcases h with (h | h) | ⟨ds,e,l,f⟩
  ·exact .inl (.inl h)
  ·exact .inl (.inr (.inl h))
  ·exact .inr ⟨ds,e,l,fun x hx=>A8 (f x hx)⟩
theorem Je.at {b:Int} {ks is:KL} {jq:List (Str×D)} {nm w:Str} (N:Je b ks is jq nm) (h:w∈ks.map (·.1)):∃ i:Int,0<=i/\i < ks.length/\yD b i w:=by
 obtain⟨i,hi,ei⟩:=Qn h
 have:=N.1 i w (by rw [Qj hi,ei])
 rw [Pr] at hi;exact⟨0+(i:Int),by omega,by omega,this⟩
theorem Je.in {b:Int} {ks is:KL} {jq:List (Str×D)} {nm w:Str} (N:Je b ks is jq nm) (h:w∈is.map (·.1)++jq.map (·.1)):∃ i:Int,8<=i/\i < 8+(is.length+jq.length:Nat)/\yD b i w:=by
 obtain⟨i,hi,ei⟩:=Qn h
 have:=N.2.1 i w (by rw [Qj hi,ei])
 rw [PK,Pr,Pr] at hi;exact⟨8+(i:Int),by omega,by omega,this⟩
theorem Je.nd {b:Int} {ks is:KL} {jq:List (Str×D)} {nm:Str} (N:Je b ks is jq nm) (k8:ks.length<=8):(ks.map (·.1)++[nm]).Nodup:=by
 obtain⟨k,k0,nP⟩:=N.2.2;refine List.nodup_append.mpr ⟨List.pairwise_iff_getElem.mpr fun i j hi hj hij e=>?_,by simp,fun a ha b' hb e=>?_⟩
 ·have a:=N.1 i _ (Qj hi);have b:=N.1 j _ (Qj hj);rw [Pr] at hi hj;rw [e] at a
  have:=n6 ‹0› ‹0› ‹0› ‹0› a b
  omega
 ·rw [List.mem_singleton.mp hb] at e;subst e;obtain⟨i,i0,i1,ia⟩:=N.at ha
  have:=n6 ‹0› ‹0› ‹0› ‹0› ia nP
  omega
theorem Je.dj {b:Int} {ks is:KL} {jq:List (Str×D)} {nm:Str} (N:Je b ks is jq nm) (k8:ks.length<=8) (i8:is.length+jq.length<=8):∀ w∈ks.map (·.1),w∉is.map (·.1)++jq.map (·.1):=fun w h z=>by
 obtain⟨i,i0,i1,ia⟩:=N.at h;obtain⟨j,j0,j1,ja⟩:=N.in z
 have:=n6 ‹0› ‹0› ‹0› ‹0› ia ja
 omega
theorem Bi (ks is:KL) (jq:List (Str×D)) (nm:Str) (b:Bool) (k8:ks.length+is.length<=8) (j8:is.length+jq.length<=100) (nd:(ks.map (·.1)++[nm]).Nodup) (dj:∀ w∈ks.map (·.1),w∉is.map (·.1)++jq.map (·.1)):aG aR 2 5 [o0 nm,pf ks is jq nm b]=.ok (fr (ks++is) jq):=by
 obtain⟨pp,kp'⟩:=Hu ks is jq nm b ‹0› nd;have fn:sO "name" ["Unnest"] (o0 nm)=some (.str nm):=by rfl
 have em2:is.map kf++jq.map fld=(is.map toD++jq).map fld:=by rw [Qq,zM]
 have no:=uf (is.map kf) (jq.map fld) (is.map toD++jq) (by rw [PK,Pr]; omega) em2;have e3:(is.map toD++jq).map (fun p=>D.str p.1)=(is.map (·.1)++jq.map (·.1)).map .str:=by
  rw [Qq,Qq,Q0,Q0,Q0]; rfl
 rw [e3] at no;have no:aG eF 1 1 [fr is jq]=.ok (.tup ((is.map (·.1)++jq.map (·.1)).map .str)):=no;have lc:∀ a2,kP [none,some 4] (bZ (ah 3)) (gN 0) (dZ) (f2 Ls (f2 aW (ah 0) (fC (.int 0))) (fR (aG eF 1 1) (af (ah 1) (au)))) [‹o0 nm›,‹pf ks is jq nm b›,a2,‹.tup (ks.map kf)›,‹fr is jq›]=.ok (.lst ((ks.map fun _=>false).map .bl)):=fun a2=>by
  refine ip (ds:=ks.map kf) (by simp! only []) (by rw [Pr]; omega) ?_;rw [Q0];refine li kf _ ks fun p hp=>⟨[‹kf p›,‹fr is jq›],rfl,rfl,?_⟩
  have i0:aW (kf p) (.int 0)=some (.str p.1):=rfl;have ii:Ls (.str p.1) (.tup ((is.map (·.1)++jq.map (·.1)).map .str))=some (.bl false):=by
   rw [GD];congr 2;cases h:(is.map (·.1)++jq.map (·.1)).contains p.1 with
   | false=>rfl
   | true=>exact absurd (List.contains_iff_mem.mp h) (dj _ (List.mem_map.mpr ⟨p,hp,rfl⟩))
  simp! only [i0,no,ii];rfl
 have an:C9 [.lst ((ks.map fun _=>false).map .bl)]=some (.bl false):=by
  rw [GI];congr 2;cases h:(ks.map fun _=>false).any id with
  | false=>rfl
  | true =>
   obtain⟨x,hx,ex⟩:=List.any_eq_true.mp h;obtain⟨_,_,rfl⟩:=List.mem_map.mp hx;cases ex
 have ad:=fS (ks.map kf) (is.map kf) (by rw [Pr,Pr]; omega);rw [<- Qq] at ad;have rr:(!(("rows":Str)==("rows":Str)))=false:=by decide +kernel
 have z1:(!(((1:Nat):Int)==1))=false:=rfl;have g8:decide (((ks.length:Int)+(is.length:Int)) > 8)=false:=decide_eq_false ‹0›;rw [eR]; unfold aR;simp! only [fn,pp,kp',rr,z1,lc,an,Pr,g8,ad,yf]
theorem Kr (b:Bool):((!b)==b)=false:=by cases b <;> rfl
theorem Om (nm:Str) (i:Nat) (fas:aq->R (List D)) (ρ:aq) (h:ah i ρ=.ok (o0 nm)):cq "view_form" [("Step",aG bA 2 2),("Unnest",aG aR 2 5)] (ah i) fas ρ=(fas ρ).bind fun as=>aG aR 2 5 (o0 nm::as):=ww (nm:=nm) _ _ _ _ fas ρ h M7
theorem OT (nm:Str) (i:Nat) (fas:aq->R (List D)) (ρ:aq) (h:ah i ρ=.ok (o0 nm)):cq "put" [("Step",aG g9 4 4),("Unnest",aG de 4 6)] (ah i) fas ρ=(fas ρ).bind fun as=>aG de 4 6 (o0 nm::as):=ww (nm:=nm) _ _ _ _ fas ρ h MP
theorem Ol (nm:Str) (i:Nat) (fas:aq->R (List D)) (ρ:aq) (h:ah i ρ=.ok (o0 nm)):cq "got" [("Step",aG cA 3 3),("Unnest",aG bo 3 3)] (ah i) fas ρ=(fas ρ).bind fun as=>aG bo 3 3 (o0 nm::as):=ww (nm:=nm) _ _ _ _ fas ρ h MF
theorem Ow (nm:Str) (i:Nat) (fas:aq->R (List D)) (ρ:aq) (h:ah i ρ=.ok (o0 nm)):cq "exact" [("Step",aG cp 2 2),("Unnest",aG aN 2 2)] (ah i) fas ρ=(fas ρ).bind fun as=>aG aN 2 2 (o0 nm::as):=ww (nm:=nm) _ _ _ _ fas ρ h Kl
theorem Al:∃ F:cw,F=(aJ (bR 6 (cy (af (ah 5) (af (cy (af (cy (af (f1 (sO "name" ["Unnest"]) (ah 0)) (af (cy (af (fC (.str "rows")) (af (cy (af (bK (f2 aW (f2 aW (ah 4) (fC (.int 1))) (fC (.int 0))) (bj) (cE (fC (.int 1)))) (af (bK (f2 aW (f2 aW (ah 4) (fC (.int 1))) (fC (.int 1))) (cE (fC (.int 1))) (bj)) (au)))) (af (x5 (f2 aW (ah 4) (fC (.int 2)))) (au))))) (au)))) (au))) (au))))) (aJ (bR 7 (fR (aG cu 1 2) (af (ah 6) (au)))) (aJ (bR 8 (fR (aD 20) (af (ah 7) (af (ah 3) (af (fC (.int 5)) (au)))))) (aJ (bR 9 (fR (aG du 2 6) (af (ah 8) (af (fL ic (af (ah 5) (au))) (au))))) (aJ (j3 (xN (jJ (cO (fR (az 20) (af (cq "view_form" [("Step",(aG bA 2 2)),("Unnest",(aG aR 2 5))] (ah 0) (af (ah 6) (au))) (af (ah 7) (au)))))) (fB (f2 mj (cq "exact" [("Step",(aG cp 2 2)),("Unnest",(aG aN 2 2))] (ah 0) (af (ah 6) (au))) (f2 aW (ah 4) (fC (.int 2)))))) (bG (fC (.bl false))) (cG)) (bG (o3 (fR (az 20) (af (cq "got" [("Step",(aG cA 3 3)),("Unnest",(aG bo 3 3))] (ah 0) (af (ah 6) (af (ah 9) (au)))) (af (ah 8) (au)))) (fR (az 20) (af (cq "put" [("Step",(aG g9 4 4)),("Unnest",(aG de 4 6))] (ah 0) (af (ah 6) (af (cy (au)) (af (ah 8) (au))))) (af (ah 9) (au)))))))))))/\∀ (ks ks0 is is0:KL) (jq jq0:List (Str×D)) (nm ex:Str) (b:Bool) (n:Nat) (hn:n<=2) (k1:1<=ks.length) (i1:1<=is0.length) (k8:ks.length+1<=8) (j8:jq0.length<=8) (hk:∀ p∈ks,p.2.gd) (hi:∀ p∈is0,p.2.gd) (hq:∀ q∈jq0,KG n q.2) (nd:(ks.map (·.1)++[nm]).Nodup) (dj:∀ w∈ks.map (·.1),w∉is0.map (·.1)++jq0.map (·.1)) (x:Int) (x0:0<=x) (x1:x < 2147483700),
  F K0 [‹o0 nm›,‹pf ks0 is0 jq0 nm b›,‹.str ex›,‹.int x›,‹.tup [.str "rows",fr is0 jq0,.bl b]›,‹.tup (ks.map kf)›,none,none,none,none]=.ok (.bl true):=by
 refine⟨_,rfl,fun ks ks0 is is0 jq jq0 nm ex b n hn k1 i1 k8 j8 hk hi hq nd dj x x0 x1=>?_⟩;have il:(is0.take 1).length=1:=by rw [Pz]; omega
 have jl:(jq0.drop 1).length<=8:=by rw [PN]; omega
 have hk':∀ p∈ks++is0.take 1,p.2.gd:=fun p h=>by
  rcases List.mem_append.mp h with z | z
  ·exact hk p z
  ·exact hi p (RF z)
 have hq':∀ q∈jq0.drop 1,KG n q.2:=fun q h=>hq q (RG h);have fo:=Bk ks (is0.take 1) (jq0.drop 1) nm (!b) ‹0›;have vo:=Bi ks (is0.take 1) (jq0.drop 1) nm (!b) ‹0› ‹0› nd (fun w h z=>dj w h (by
  rcases List.mem_append.mp z with z | z
  ·rw [RH] at z; exact O8 _ (RF z)
  ·rw [List.map_drop] at z; exact Pj _ (RG z)))
 have ei:=sr ks (is0.take 1) (jq0.drop 1) nm (!b) ‹0› nd;obtain⟨t,et,T⟩:=Fj n 17 hn (ut n 18 ‹0›) (ks++is0.take 1) (jq0.drop 1) (by rw [PK]; omega) (by rw [PK]; omega) jl hk' hq' x 5 x0 x1 (by decide);have et:aD 20 [fr (ks++is0.take 1) (jq0.drop 1),.int x,.int 5]=.ok (.tup (t.map .tup)):=et;have sl:((ks++is0.take 1).map (·.2.b)).length=ks.length+1:=by rw [Pr,PK,il]
 have fa:=Fb (n:=4*n) (ks++is0.take 1) (jq0.drop 1) (by rw [PK]; omega) jl hk' fun q h=>DF n _ (hq' q h);have a1:=oh (5+4*n) 20 _ ‹0› fa;generalize (ks++is0.take 1).map (·.2.b)=σ at T sl;have hm:ks.length<=σ.length:=by omega
 have n1:=vx T k1 hm (d0:=.tup (t.map .tup)) rfl;rw [HJ] at n1;have kl:(ks.map kf).length=ks.length:=by rw [Pr]
 have g1:=zA (NT.new T hm) T hm ‹0› (by decide) (o0 nm) (pf ks (is0.take 1) (jq0.drop 1) nm (!b)) (ks.map kf) _ kl rfl;have p1:=G0 T k1 hm (o0 nm) (pf ks (is0.take 1) (jq0.drop 1) nm (!b)) (ks.map kf) _ kl rfl;have a2:=oh 6 20 _ (by decide) (A8 (T.ALt));have a3:=oh 8 20 _ (by decide) (A8 (((NT.new T hm).AL T hm ‹0› (by decide))));have c1:cutD (is0.map kf) none (some 1)=(is0.take 1).map kf:=by
  rw [show (1:Int)=((1:Nat):Int) from rfl,mZ,RH]
 have c2:cutD (jq0.map fld) (some 1) none=(jq0.drop 1).map fld:=by
  rw [show (1:Int)=((1:Nat):Int) from rfl,ui,List.map_drop]
 have fn:sO "name" ["Unnest"] (.obj "Unnest" ["name"] [.str nm])=some (.str nm):=by rfl
 have nb:=Kr b;generalize (Nn ks.length t).map D.tup=V1 at n1 g1 p1 a3;simp! only [c1,c2,fn,HA,yf,Ib,fo,et,Pr,n1,Om nm,vo,a1,Ow nm,ei,nb,Ol nm,g1,a2,OT nm,Md,p1,a3,Ql]
theorem Eu (ks is:KL) (jq:List (Str×D)) (nm ex:Str) (b:Bool) (n:Nat) (hn:n<=2) (k1:1<=ks.length) (i1:1<=is.length) (k8:ks.length+is.length<=8) (j8:is.length+jq.length<=8) (hk:∀ p∈ks,p.2.gd) (hi:∀ p∈is,p.2.gd) (hq:∀ q∈jq,KG n q.2) {bb:Int} (N:Je bb ks is jq nm) (ne:yD bb 22 ex) (x:Int) (x0:0<=x) (x1:x < 2147483700) :
  aG fH 4 10 [o0 nm,pf ks is jq nm b,.str ex,.int x]=.ok (.bl true):=by
 obtain⟨RR,hR,AR⟩:=Al;have ad:cj (.tup (ks.map kf)) (.tup [.tup [.str ex,.tup [.str "number",.int 0,.int 9]]])=some (.tup ((ks++[(ex,Kd.num 0 9)]).map kf)):=by
  rw [fS _ _ (by rw [Pr,PR]; omega),Qq]; rfl
 have c1:cutD (ks.map kf) none (some 1)=(ks.take 1).map kf:=by
  rw [show (1:Int)=((1:Nat):Int) from rfl,mZ,RH]
 have nd:=N.nd ‹0›;have dj:=N.dj ‹0› j8;obtain⟨k,k0,nP⟩:=N.2.2;rw [zI]; unfold fH;rw [<- hR];cases h7:decide (((ks.length:Int)+(is.length:Int)) > 7) with
 | true =>
  have ar:=AR (ks.take 1) ks is is jq jq nm ex b n hn (by rw [Pz]; omega) i1 (by rw [Pz]; omega) ‹0› (fun p h=>hk p (RF h)) hi hq (nd.sublist (by rw [RH]; exact(PH _ _).append (List.Sublist.refl _))) (fun w h=>dj w (by rw [RH] at h; exact RF h)) x x0 x1;simp! only [HA,yf,Ib,ad,Pr,h7,c1];exact ar
 | false =>
  have h7':ks.length+is.length<=7:=by have:=of_decide_eq_false h7; omega
  have exk:ex∉ks.map (·.1):=fun z=>by
   obtain⟨i,i0,i1,ia⟩:=N.at z
   have:=n6 ‹0› ‹0› ‹0› ‹0› ia ne
   omega
  have ar:=AR (ks++[(ex,Kd.num 0 9)]) ks is is jq jq nm ex b n hn (by rw [PK]; omega) i1 (by rw [PK,PR]; omega) ‹0› (fun p h=>by
   rcases List.mem_append.mp h with z | z
   ·exact hk p z
   ·rw [List.mem_singleton.mp z]; show (0:Int)<=9; decide) hi hq (by
    rw [Qq];show (ks.map (·.1)++[ex]++[nm]).Nodup;obtain⟨n1,_,n3⟩:=List.nodup_append.mp nd;refine List.nodup_append.mpr ⟨List.nodup_append.mpr ⟨n1,by simp,fun a ha b' hb e=>?_⟩,by simp,fun a ha b' hb e=>?_⟩
    ·rw [List.mem_singleton.mp hb] at e;rw [e] at ha; exact exk ha
    ·rcases List.mem_append.mp ha with z | z
     ·exact n3 a z b' hb e
     ·rw [List.mem_singleton.mp hb,List.mem_singleton.mp z] at e;rw [e] at ne
      have:=n6 ‹0› ‹0› ‹0› ‹0› ne nP
      omega) (fun w h z=>by
    rw [Qq] at h;rcases List.mem_append.mp h with y | y
    ·exact dj w y z
    ·rw [List.mem_singleton.mp y] at z;obtain⟨j,j0,j1,ja⟩:=N.in z
     have:=n6 ‹0› ‹0› ‹0› ‹0› ne ja
     omega) x x0 x1
  simp! only [HA,yf,Ib,ad,Pr,h7];exact ar
section
open Classical
variable {σ τ:List Bool} {t TT:List (List D)} {m c:Nat}
theorem El:∃ F:cw,F=(aJ (bR 8 (f2 aW (f2 aW (f2 aW (ah 3) (fC (.int 1))) (fC (.int 0))) (fC (.int 0)))) (aJ (bR 9 (fNew "Unnest" ["name"] (af (ah 8) (au)))) (aJ (j3 (xN (jJ (cO (fR (az 20) (af (cq "view_form" [("Step",(aG bA 2 2)),("Unnest",(aG aR 2 5))] (ah 9) (af (ah 3) (au))) (af (ah 5) (au)))))) (jJ (cO (fR (az 20) (af (cq "words" [("Step",(aG fG 1 1)),("Unnest",(aG cV 1 1))] (ah 9) au) (af (cy (af (fC (.str "unnest")) (af (ah 8) (au)))) (au))))))) (bG (fC (.bl false))) (cG)) (aJ (j3 (xN (jJ (cO (ow "bool" (cq "exact" [("Step",(aG cp 2 2)),("Unnest",(aG aN 2 2))] (ah 9) (af (ah 3) (au)))))) (jJ (cO (ow "bool" (cq "steady" [("Step",(aG dA 2 2)),("Unnest",(aG bV 2 2))] (ah 9) (af (ah 3) (au))))))) (bG (fC (.bl false))) (cG)) (aJ (j3 (xN (fB (f2 ye (cq "exact" [("Step",(aG cp 2 2)),("Unnest",(aG aN 2 2))] (ah 9) (af (ah 3) (au))) (ah 2))) (fB (f2 ye (cq "steady" [("Step",(aG dA 2 2)),("Unnest",(aG bV 2 2))] (ah 9) (af (ah 3) (au))) (ah 2)))) (bG (fC (.bl false))) (cG)) (aJ (j3 (xN (jJ (cO (fR (az 20) (af (cq "got" [("Step",(aG cA 3 3)),("Unnest",(aG bo 3 3))] (ah 9) (af (ah 3) (af (ah 7) (au)))) (af (ah 6) (au)))))) (fB (f2 ye (cq "got" [("Step",(aG cA 3 3)),("Unnest",(aG bo 3 3))] (ah 9) (af (ah 3) (af (cy (au)) (au)))) (cy (au))))) (bG (fC (.bl false))) (cG)) (aJ (bR 10 (fR (aG bT 2 7) (af (f2 dD (f2 jK (fR (aG bS 2 2) (af (ah 0) (af (fC (.int 1)) (au)))) (fC (.int 48271))) (fC (.int 2147483647))) (af (fC (.int 22)) (au))))) (aJ (j3 (xN (jJ (cO (fR (aG fH 4 10) (af (ah 9) (af (ah 3) (af (ah 10) (af (ah 1) (au)))))))) (jJ (cO (fR (az 20) (af (cq "view_form" [("Step",(aG bA 2 2)),("Unnest",(aG aR 2 5))] (ah 9) (af (ah 3) (au))) (af (ah 5) (au))))))) (bG (fC (.bl false))) (cG)) (bG (fR (az 20) (af (cq "got" [("Step",(aG cA 3 3)),("Unnest",(aG bo 3 3))] (ah 9) (af (ah 3) (af (ah 7) (au)))) (af (ah 6) (au)))))))))))))/\∀ (σ:List Bool) (t TT:List (List D)) (m c:Nat) (NN:NT (σ.take m) m c t TT) (T:Tab σ t) (m1:1<=m) (hm:m<=σ.length) (hc:c<=7) (ks is:KL) (jq:List (Str×D)) (nm:Str) (b:Bool) (n:Nat) (hn:n<=2) (km:ks.length=m) (i1:1<=is.length) (k8:ks.length+is.length<=8) (j8:is.length+jq.length<=8) (hk:∀ p∈ks,p.2.gd) (hi:∀ p∈is,p.2.gd) (hq:∀ q∈jq,KG n q.2) (x:Int) (x0:0<=x) (x1:x < 2147483700) (ns:List Int) (c1:Int) (e1:aG bS 2 2 [.lst (ns.map .int),.int 1]=.ok (.int c1)) (N:Je (c1*48271%2147483647) ks is jq nm),
  F K0 [‹.lst (ns.map .int)›,‹.int x›,‹.bl b›,‹pf ks is jq nm b›,‹.int m›,‹fr (ks++is) jq›,‹.tup (t.map .tup)›,‹.tup (TT.map .tup)›,none,none,none]=.ok (.bl true):=by
 refine⟨_,rfl,fun σ t TT m c NN T m1 hm hc ks is jq nm b n hn km i1 k8 j8 hk hi hq x x0 x1 ns c1 e1 N=>?_⟩;have kl:(ks.map kf).length=m:=by rw [Pr]; exact km
 have nd:=N.nd ‹0›;have dj:=N.dj ‹0› j8;have hk':∀ p∈ks++is,p.2.gd:=fun p h=>by
  rcases List.mem_append.mp h with z | z
  ·exact hk p z
  ·exact hi p z
 have mm:=fun i=>pG (i:=i) (j:=48271) (by decide) (by decide);have gM:=gm 2147483647;obtain⟨ex,ee,nE⟩:=xi (c1*48271%2147483647) 22 (Rl _ (by decide)) (by decide);have vo:=Bi ks is jq nm b k8 ‹0› nd dj;have ei:=sr ks is jq nm b ‹0› nd;have si:=C4 ks is jq nm b ‹0› nd;have ag:=Eu ks is jq nm ex b n hn ‹0› i1 k8 j8 hk hi hq N nE x x0 x1;have g1:=zA NN T hm ‹0› hc (o0 nm) (pf ks is jq nm b) (ks.map kf) _ kl rfl;have g0:=zA (IR (σ:=σ) (m:=m)) (Gi (σ:=σ)) hm ‹0› (by decide) (o0 nm) (pf ks is jq nm b) (ks.map kf) _ kl rfl;have g0:aG bo 3 3 [o0 nm,pf ks is jq nm b,.tup []]=.ok (.tup []):=g0;have fa:=Fb (n:=4*n) (ks++is) jq (by rw [PK]; omega) ‹0› hk' fun q h=>DF n _ (hq q h);have a1:=oh (5+4*n) 20 _ ‹0› fa;have a2:=oh 6 20 _ (by decide) (A8 (T.ALt));have wo:aG cV 1 1 [o0 nm]=.ok (.tup [.str "unnest",.str nm]):=by
  have fn:sO "name" ["Unnest"] (o0 nm)=some (.str nm):=by rfl
  rw [oS]; unfold cV;generalize o0 nm=O at fn;simp! only [fn,yf]
 have a4:az 20 [.tup [.str "unnest",.str nm],.tup [.str "unnest",.str nm]]=.ok (.bl true):=oh 1 20 _ (by decide) (wM (AB.str _) (AB.str _));have tb:qt "bool" (.bl b)=some (.bl true):=rfl;have ne:ye (.tup []) (.tup [])=some (.bl false):=nr rfl;have mw:=fun (fas:aq->R (List D)) (ρ:aq) (h:ah 9 ρ=.ok (o0 nm))=>ww (nm:=nm) "words" (aG fG 1 1) (aG cV 1 1) (ah 9) fas ρ h NZ;have ms:=fun (fas:aq->R (List D)) (ρ:aq) (h:ah 9 ρ=.ok (o0 nm))=>ww (nm:=nm) "steady" (aG dA 2 2) (aG bV 2 2) (ah 9) fas ρ h M4;simp! only [Hl,Om nm,vo,a1,mw,wo,yf,a4,Ow nm,ms,ei,si,tb,beq_self_eq_true,Ol nm,g1,a2,Md,g0,ne,e1,mm,gM,ee,ag]
end
theorem math (ns:List Int) (hl:ns.length<=63):aG tN 1 11 [.lst (ns.map .int)]=.ok (.bl true):=by
 obtain⟨c1,e1⟩:=TD.L4 ns 1 (by decide);obtain⟨x,x0,x1,ex⟩:=xO ns 2 (by decide);have ex:aG cT 2 3 [.lst (ns.map .int),.int 2]=.ok (.int x):=ex;obtain⟨y,y0,y1,ey⟩:=jd x x0 ‹0›;obtain⟨ks,is,jq,nm,n,hn,k1,i1,ki,j8,hk,hi,hq,N,ef⟩:=CC ns (y%2==1) c1 e1;have fo:=Bk ks is jq nm (y%2==1) ki;obtain⟨t,T,et⟩:=Ek (ks++is) jq n hn (by rw [PK]; omega) (by rw [PK]; omega) ‹0› (fun p h=>by
  rcases List.mem_append.mp h with z | z
  ·exact hk p z
  ·exact hi p z) hq (ks.length:Int) ns hl
 have sl:((ks++is).map (·.2.b)).length=ks.length+is.length:=by rw [Pr,PK]
 have hs:((ks++is).map (·.2.b)).take ks.length=ks.map (·.2.b):=by
  rw [Qq];exact List.take_left' (by rw [Pr])
 generalize (ks++is).map (·.2.b)=σ at T sl hs;obtain⟨m,km⟩:∃ m,ks.length=m:=⟨_,rfl⟩
 rw [km] at et hs sl k1;have hm:m<=σ.length:=by omega
 have g2:=gm 2;have g6:=gm 6;have d2:=gd 2;have n1:=vx T k1 hm (d0:=.tup (t.map .tup)) rfl;rw [HJ] at n1;obtain⟨RR,hR,LR⟩:=El;rw [oS]; unfold tN;rw [<- hR];cases hb:(y%2==1) with
 | true =>
  rw [hb] at ef fo;have lr:=LR _ _ _ _ _ (NT.new T hm) T k1 hm (by decide) ks is jq nm true n hn km i1 ki j8 hk hi hq y y0 ‹0› ns c1 e1 N;simp! only [ex,ey,g2,hb,ef,fo,Pr,km,et,n1];exact lr
 | false =>
  rw [hb] at ef fo;obtain⟨q,q5,eq⟩:∃ q:Nat,q<=5/\y / 2%6=(q:Int):=⟨(y / 2%6).toNat,by omega,by omega⟩
  have rq:=kc q ‹0›;have mm:=fun (i j:Int) (h:-(2 ^ 64) < i) (h':i < 2 ^ 64)=>lw (i:=i) (j:=j) h h';obtain⟨xs,xl,xp,xe⟩:=xW (ρ:=[none,‹.int y›]) (g:=gN 0) (C:=dZ) (Fe:=fR (aG aM 1 1) (af (f2 cj (ah 1) (f2 jK (f2 jK (fC (.int 7)) (ah 0)) (ah 0))) (au))) (fun d=>∃ z:Int,d=.int z/\0<=z/\z < 2147483700) (e7 0 q) fun d hd=>by
   obtain⟨k,hk,rfl⟩:∃ k:Nat,k < q/\d=.int (k:Int):=by
    rw [kT] at hd;obtain⟨k,hk,rfl⟩:=List.mem_map.mp hd;exact⟨k,List.mem_range.mp hk,by simp⟩
   have k5:k*k<=25:=Nat.mul_le_mul (show k<=5 by omega) (show k<=5 by omega);have k5':(7*(k:Int))*(k:Int)<=175/\0<=(7*(k:Int))*(k:Int):=by
    rw [Int.mul_assoc,<- Int.natCast_mul]; omega
   obtain⟨z,z0,z1,ez⟩:=Ep (y+7*(k:Int)*(k:Int)) ‹0› ‹0›;have m7:=mm 7 (k:Int) (by decide) (by decide);have m8:=mm (7*(k:Int)) (k:Int) ‹0› ‹0›;refine⟨[‹.int k›,‹.int y›],.int z,rfl,rfl,?_,z,rfl,z0,by omega⟩;simp! only [m7,m8,ez]
  obtain⟨zs,rfl⟩:∃ zs:List Int,xs=zs.map .int:=by
   clear xe xl
   induction xs with
   | nil=>exact⟨[],rfl⟩
   | cons a xs ih =>
    obtain⟨z,rfl,_⟩:=xp a O6;obtain⟨zs,e⟩:=ih fun v hv=>xp v (O7 _ hv);exact⟨z::zs,by rw [e]; rfl⟩
  rw [Pr,cX] at xl;have lc3:∀ a2 a3 a4 a5 a6 a7 a8 a9 a10:Option S,kP [none,some 1] (gl (af (f2 dD (f2 eP (ah 1) (fC (.int 2))) (fC (.int 6))) (au))) (gN 0) (dZ) (fR (aG aM 1 1) (af (f2 cj (ah 1) (f2 jK (f2 jK (fC (.int 7)) (ah 0)) (ah 0))) (au))) [‹.lst (ns.map .int)›,‹.int y›,a2,a3,a4,a5,a6,a7,a8,a9,a10]=.ok (.lst (zs.map .int)):=fun _ _ _ _ _ _ _ _ _ =>
   ip (ds:=e7 0 q) (by simp! only [d2,g6,eq,rq]) (by rw [cX]; omega) xe
  obtain⟨T1,N1,eT⟩:=Hm T k1 hm ks ‹0› hk hs km (.tup [.tup [.str nm,.tup [.str "rows",fr is jq,.bl false]]]) zs (fun z hz=>by
   obtain⟨z',h1,h2,h3⟩:=xp (.int z) (List.mem_map.mpr ⟨z,hz,rfl⟩);injection h1 with h1;rw [h1]; exact⟨h2,h3⟩) ‹0›
  have lr:=LR _ _ _ _ _ N1 T k1 hm (by decide) ks is jq nm false n hn km i1 ki j8 hk hi hq y y0 ‹0› ns c1 e1 N;simp! only [ex,ey,g2,hb,ef,fo,Pr,km,et,n1,lc3,eT];exact lr
end Tk42
open PySem PySem.W PyProof.Rows
theorem PySem.W.Fast.tw8009388069145296722 : True := trivial
theorem PySem.W.Fast.tw5972535334061126780 : True := trivial
theorem PySem.W.Fast.tw5670267620481407604 : True := trivial
theorem PySem.W.Fast.tw17936290893295583663 : True := trivial
theorem PySem.W.Fast.tw10576181504808564251 : True := trivial
theorem PySem.W.Fast.tw8657065089266420152 : True := trivial
theorem PySem.W.Fast.tw3466550595843102710 : True := trivial
theorem PySem.W.Fast.tw1735774579013818251 : True := trivial
theorem PySem.W.Fast.tw13664064701720384718 : True := trivial
theorem PySem.W.Fast.tw11131184548496232290 : True := trivial
theorem PySem.W.Fast.tw17324132229146630559 : True := trivial
theorem PySem.W.Fast.tw13868827201752010364 : True := trivial
theorem PySem.W.Fast.tw12411807562385282937 : True := trivial
theorem PySem.W.Fast.tw4339733304028545102 : True := trivial
theorem PySem.W.Fast.tw18360442787032334969 : True := trivial
theorem PySem.W.Fast.tw9062790301607309159 : True := trivial
theorem PySem.W.Fast.tw6580897996995892878 : True := trivial
theorem PySem.W.Fast.tw9514698859063925068 : True := trivial
theorem PySem.W.Fast.tw15197697161422726950 : True := trivial
theorem PySem.W.Fast.tw1071881914899206741 : True := trivial
theorem PySem.W.Fast.tw11839996457991719340 : True := trivial
theorem PySem.W.Fast.tw12973554589495005284 : True := trivial
theorem PySem.W.Fast.tw15093806601345903654 : True := trivial
theorem PySem.W.Fast.tw13976071700692783734 : True := trivial
theorem PySem.W.Fast.tw1013402637340396074 : True := trivial
theorem PySem.W.Fast.tw10029945401351294113 : True := trivial
theorem PySem.W.Fast.tw230259350452950359 : True := trivial
theorem PySem.W.Fast.tw239513025158297221 : True := trivial
theorem PySem.W.Fast.tw6114334000723841807 : True := trivial
theorem PySem.W.Fast.tw10393070848343692345 : True := trivial
theorem PySem.W.Fast.tw5697606062056498919 : True := trivial
theorem PySem.W.Fast.tw13566149969908179807 : True := trivial
theorem PySem.W.Fast.tw15760153282787840767 : True := trivial
theorem PySem.W.Fast.tw11163959708689444820 : True := trivial
theorem PySem.W.Fast.tw9543348444837917282 : True := trivial
theorem PySem.W.Fast.tw3472596674163938126 : True := trivial
theorem PySem.W.Fast.tw13552808687145274058 : True := trivial
theorem PySem.W.Fast.tw17646968555399474916 : True := trivial
theorem PySem.W.Fast.tw15420472904821408463 : True := trivial
theorem PySem.W.Fast.tw7691693609121907943 : True := trivial
theorem PySem.W.Fast.tw15335141476171060483 : True := trivial
theorem PySem.W.Fast.tw12429562730607873850 : True := trivial
theorem PySem.W.Fast.tw11477762402995464907 : True := trivial
theorem PySem.W.Fast.tw12073905834367139449 : True := trivial
theorem PySem.W.Fast.tw12145598906682195211 : True := trivial
theorem PySem.W.Fast.tw8760874081618061485 : True := trivial
theorem PySem.W.Fast.tw10093630257506889267 : True := trivial
theorem PySem.W.Fast.tw1011889636805460584 : True := trivial
theorem PySem.W.Fast.tw4307478135661124293 : True := trivial
theorem PySem.W.Fast.tw272435087634319633 : True := trivial
theorem PySem.W.Fast.tw8631606496396793424 : True := trivial
theorem PySem.W.Fast.tw8182204155450632396 : True := trivial
theorem PySem.W.Fast.tw12334215955621952394 : True := trivial
theorem PySem.W.Fast.tw6685597946263351309 : True := trivial
theorem PySem.W.Fast.tw6641668703182645399 : True := trivial
theorem PySem.W.Fast.tw13221664131694223366 : True := trivial
theorem PySem.W.Fast.tw8517772830531406713 : True := trivial
theorem PySem.W.Fast.tw3904143260904161569 : True := trivial
theorem PySem.W.Fast.tw17355762315394000170 : True := trivial
theorem PySem.W.Fast.tw7348790055665899122 : True := trivial
theorem PySem.W.Fast.tw11121914444362467906 : True := trivial
theorem PySem.W.Fast.tw1024189613235096207 : True := trivial
theorem PySem.W.Fast.tw17955635656718455987 : True := trivial
theorem PySem.W.Fast.tw4694234159576153661 : True := trivial
theorem PySem.W.Fast.tw4880767155209213948 : True := trivial
theorem PySem.W.Fast.tw8050637159148415744 : True := trivial
theorem PySem.W.Fast.tw18321589960161096609 : True := trivial
theorem PySem.W.Fast.tw17457354471768822420 : True := trivial
theorem PySem.W.Fast.tw12660291826670068855 : True := trivial
theorem PySem.W.Fast.tw13913999136694387653 : True := trivial
theorem PySem.W.Fast.tw5970281059852822575 : True := trivial
theorem PySem.W.Fast.tw25031585570754020 : True := trivial
theorem PySem.W.Fast.tw15968878864555046829 : True := trivial
theorem PySem.W.Fast.tw11737955375957111314 : True := trivial
theorem PySem.W.Fast.tw15507245272703040869 : True := trivial
theorem PySem.W.Fast.tw12021454757399530169 : True := trivial
theorem PySem.W.Fast.tw3651098900251936564 : True := trivial
theorem PySem.W.Fast.tw5813212141899272430 : True := trivial
theorem PySem.W.Fast.tw3026612713024066643 : True := trivial
theorem PySem.W.Fast.tw8832120647084589211 : True := trivial
theorem PySem.W.Fast.tw3475245600955343994 : True := trivial
theorem PySem.W.Fast.tw15951162532359611815 : True := trivial
theorem PySem.W.Fast.tw9179943973850633914 : True := trivial
theorem PySem.W.Fast.tw11439127965242013805 : True := trivial
theorem PySem.W.Fast.tw14864766669091059725 : True := trivial
theorem PySem.W.Fast.tw8923209317934855967 : True := trivial
theorem PySem.W.Fast.tw8394629368663803398 : True := trivial
theorem PySem.W.Fast.tw994744710207527617 : True := trivial
theorem PySem.W.Fast.tw16714313928535996650 : True := trivial
theorem PySem.W.Fast.tw12579643592729065044 : True := trivial
set_option maxRecDepth 100000 in
set_option maxHeartbeats 0 in
theorem PySem.Challenge.cw_twoglass_k42_unnested_holds : PySem.Challenge.rw_twoglass_k42_unnested.Holds := by
  w_on; o_law; k_head; (case hw => w_witness2)
  k_fill
  refine Tk42.walk (l := PySem.Challenge.rw_twoglass_k42_unnested) rfl rfl (fun w h Y => ⟨PySem.W.km_in_of Y, PySem.W.km_tabs_of Y _ (List.Mem.head _)⟩) ?F Tk42.math
  case F =>
    intro w mg fa h KX G hmg
    refine' Tk42.all_mk KX G hmg ?ac0 ?ac1 ?a0 ?l0 ?c0 ?k0 ?a1 ?i1 ?l1 ?c1 ?k1 ?a2 ?l2 ?c2 ?k2 ?a3 ?i3 ?l3 ?c3 ?k3 ?a4 ?i4 ?l4 ?c4 ?k4 ?a5 ?l5 ?c5 ?k5 ?a6 ?l6 ?c6 ?k6 ?a7 ?l7 ?c7 ?k7 ?a8 ?i8 ?l8 ?c8 ?k8 ?a9 ?i9 ?l9 ?c9 ?k9 ?a10 ?l10 ?c10 ?k10 ?a11 ?l11 ?c11 ?k11 ?a12 ?l12 ?c12 ?k12 ?a13 ?l13 ?c13 ?k13 ?a14 ?i14 ?l14 ?c14 ?k14 ?a15 ?i15 ?l15 ?c15 ?k15 ?a16 ?i16 ?l16 ?c16 ?k16 ?a17 ?l17 ?c17 ?k17 ?a18 ?l18 ?c18 ?k18 ?a19 ?l19 ?c19 ?k19 ?a20 ?l20 ?c20 ?k20 ?a21 ?l21 ?c21 ?k21 ?a22 ?l22 ?c22 ?k22 ?a23 ?l23 ?c23 ?k23 ?a24 ?l24 ?c24 ?k24 ?a25 ?l25 ?c25 ?k25 ?a26 ?l26 ?c26 ?k26 ?a27 ?i27 ?l27 ?c27 ?k27 ?a28 ?i28 ?l28 ?c28 ?k28 ?a29 ?i29 ?l29 ?c29 ?k29 ?a30 ?i30 ?l30 ?c30 ?k30 ?a31 ?l31 ?c31 ?k31 ?a32 ?l32 ?c32 ?k32 ?a33 ?l33 ?c33 ?k33 ?a34 ?l34 ?c34 ?k34 ?a35 ?l35 ?c35 ?k35 ?a36 ?l36 ?c36 ?k36 ?a37 ?l37 ?c37 ?k37 ?a38 ?l38 ?c38 ?k38 ?a39 ?i39 ?l39 ?c39 ?k39 ?p0 ?q0 ?r0 ?s0 ?n0_0 ?m0 ?kp0 ?p1 ?q1 ?r1 ?s1 ?z0 ?z1 ?z2 ?z3 ?z4 ?z5 ?z6 ?z7 ?z8 ?z9 ?z10 ?z11 ?z12 ?z13 ?z14 ?e0 ?lc ?lh ?lt
    (case ac0 => k_is)
    (case ac1 => k_is)
    (case a0 => k_is)
    (case l0 => delta TX.Lk; k_is)
    (case c0 => k_is)
    (case k0 => k_is)
    (case a1 => k_is)
    (case i1 => k_is)
    (case l1 => delta TX.Lk; k_is)
    (case c1 => k_is)
    (case k1 => k_is)
    (case a2 => k_is)
    (case l2 => delta TX.Lk; k_is)
    (case c2 => k_is)
    (case k2 => k_is)
    (case a3 => k_is)
    (case i3 => k_is)
    (case l3 => delta TX.Lk; k_is)
    (case c3 => k_is)
    (case k3 => k_is)
    (case a4 => k_is)
    (case i4 => k_is)
    (case l4 => delta TX.Lk; k_is)
    (case c4 => k_is)
    (case k4 => k_is)
    (case a5 => k_is)
    (case l5 => delta TX.Lk; k_is)
    (case c5 => k_is)
    (case k5 => k_is)
    (case a6 => k_is)
    (case l6 => delta TX.Lk; k_is)
    (case c6 => k_is)
    (case k6 => k_is)
    (case a7 => k_is)
    (case l7 => delta TX.Lk; k_is)
    (case c7 => k_is)
    (case k7 => k_is)
    (case a8 => k_is)
    (case i8 => k_is)
    (case l8 => delta TX.Lk; k_is)
    (case c8 => k_is)
    (case k8 => k_is)
    (case a9 => k_is)
    (case i9 => k_is)
    (case l9 => delta TX.Lk; k_is)
    (case c9 => k_is)
    (case k9 => k_is)
    (case a10 => k_is)
    (case l10 => delta TX.Lk; k_is)
    (case c10 => k_is)
    (case k10 => k_is)
    (case a11 => k_is)
    (case l11 => delta TX.Lk; k_is)
    (case c11 => k_is)
    (case k11 => k_is)
    (case a12 => k_is)
    (case l12 => delta TX.Lk; k_is)
    (case c12 => k_is)
    (case k12 => k_is)
    (case a13 => k_is)
    (case l13 => delta TX.Lk; k_is)
    (case c13 => k_is)
    (case k13 => k_is)
    (case a14 => k_is)
    (case i14 => k_is)
    (case l14 => delta TX.Lk; k_is)
    (case c14 => k_is)
    (case k14 => k_is)
    (case a15 => k_is)
    (case i15 => k_is)
    (case l15 => delta TX.Lk; k_is)
    (case c15 => k_is)
    (case k15 => k_is)
    (case a16 => k_is)
    (case i16 => k_is)
    (case l16 => delta TX.Lk; k_is)
    (case c16 => k_is)
    (case k16 => k_is)
    (case a17 => k_is)
    (case l17 => delta TX.Lk; k_is)
    (case c17 => k_is)
    (case k17 => k_is)
    (case a18 => k_is)
    (case l18 => delta TX.Lk; k_is)
    (case c18 => k_is)
    (case k18 => k_is)
    (case a19 => k_is)
    (case l19 => delta TX.Lk; k_is)
    (case c19 => k_is)
    (case k19 => k_is)
    (case a20 => k_is)
    (case l20 => delta TX.Lk; k_is)
    (case c20 => k_is)
    (case k20 => k_is)
    (case a21 => k_is)
    (case l21 => delta TX.Lk; k_is)
    (case c21 => k_is)
    (case k21 => k_is)
    (case a22 => k_is)
    (case l22 => delta TX.Lk; k_is)
    (case c22 => k_is)
    (case k22 => k_is)
    (case a23 => k_is)
    (case l23 => delta TX.Lk; k_is)
    (case c23 => k_is)
    (case k23 => k_is)
    (case a24 => k_is)
    (case l24 => delta TX.Lk; k_is)
    (case c24 => k_is)
    (case k24 => k_is)
    (case a25 => k_is)
    (case l25 => delta TX.Lk; k_is)
    (case c25 => k_is)
    (case k25 => k_is)
    (case a26 => k_is)
    (case l26 => delta TX.Lk; k_is)
    (case c26 => k_is)
    (case k26 => k_is)
    (case a27 => k_is)
    (case i27 => k_is)
    (case l27 => delta TX.Lk; k_is)
    (case c27 => k_is)
    (case k27 => k_is)
    (case a28 => k_is)
    (case i28 => k_is)
    (case l28 => delta TX.Lk; k_is)
    (case c28 => k_is)
    (case k28 => k_is)
    (case a29 => k_is)
    (case i29 => k_is)
    (case l29 => delta TX.Lk; k_is)
    (case c29 => k_is)
    (case k29 => k_is)
    (case a30 => k_is)
    (case i30 => k_is)
    (case l30 => delta TX.Lk; k_is)
    (case c30 => k_is)
    (case k30 => k_is)
    (case a31 => k_is)
    (case l31 => delta TX.Lk; k_is)
    (case c31 => k_is)
    (case k31 => k_is)
    (case a32 => k_is)
    (case l32 => delta TX.Lk; k_is)
    (case c32 => k_is)
    (case k32 => k_is)
    (case a33 => k_is)
    (case l33 => delta TX.Lk; k_is)
    (case c33 => k_is)
    (case k33 => k_is)
    (case a34 => k_is)
    (case l34 => delta TX.Lk; k_is)
    (case c34 => k_is)
    (case k34 => k_is)
    (case a35 => k_is)
    (case l35 => delta TX.Lk; k_is)
    (case c35 => k_is)
    (case k35 => k_is)
    (case a36 => k_is)
    (case l36 => delta TX.Lk; k_is)
    (case c36 => k_is)
    (case k36 => k_is)
    (case a37 => k_is)
    (case l37 => delta TX.Lk; k_is)
    (case c37 => k_is)
    (case k37 => k_is)
    (case a38 => k_is)
    (case l38 => delta TX.Lk; k_is)
    (case c38 => k_is)
    (case k38 => k_is)
    (case a39 => k_is)
    (case i39 => k_is)
    (case l39 => delta TX.Lk; k_is)
    (case c39 => k_is)
    (case k39 => k_is)
    (case p0 => k_is)
    (case q0 => k_is)
    (case r0 => k_is)
    (case s0 => k_is)
    (case n0_0 => k_is)
    (case m0 => k_is)
    (case kp0 => k_is)
    (case p1 => k_is)
    (case q1 => k_is)
    (case r1 => k_is)
    (case s1 => k_is)
    (case z0 => k_is)
    (case z1 => k_is)
    (case z2 => k_is)
    (case z3 => k_is)
    (case z4 => k_is)
    (case z5 => k_is)
    (case z6 => k_is)
    (case z7 => k_is)
    (case z8 => k_is)
    (case z9 => k_is)
    (case z10 => k_is)
    (case z11 => k_is)
    (case z12 => k_is)
    (case z13 => k_is)
    (case z14 => k_is)
    (case e0 => k_is)
    (case lc => rfl)
    (case lh => kernel_rfl)
    (case lt => kernel_rfl)
