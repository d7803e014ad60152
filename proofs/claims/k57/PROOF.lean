import PyProof.Rows.All
import Wide.All
import OpenK.AllK
import Wide.FinOn
import Lean
import PyProof.EqAt
import PyProof.EqKinds
import PyProof.TupleCall
import PyProof.NeKinds
import PyProof.ZipIter
import PyProof.Draws
import PyProof.FactsAll.zip
import KE.KSortTup
import KE.KDictSum
import PyProof.TupleOfSeq
import PyProof.StrWalks
import PyProof.Rows.SetFrom
import KE.KRevIter
import PyProof.Rows.Range3
import KE.KTryMore
import KE.KIsNot
import PyProof.ExcArgsOwn
import PyProof.ExcAttrAll.ValueError
import PyProof.ExcBaseAll.ValueError
import PyProof.NsDelKeeps
import PyProof.Rows.CallKwBuiltin
import PyProof.WalkInts
import PyProof.Rows.Catch
import KE.KLam
import KE.KNestM
import PyProof.FactsAll.list_3
import KE.KDictList
import PyProof.Rows.CountFlat
import KE.KDictOf
import PyProof.AttrMissHeap
import PyProof.DictFindH
import PySem.Challenge.RW_twoglass_k57_no_pair_lasts
set_option Elab.async false
set_option linter.all false
set_option maxRecDepth 100000
open List renaming filterMap_cons→OI,mem_cons_self→OJ,mem_cons_of_mem→OL,mem_append_left→OM,getElem?_set_self→OO,getElem?_set_ne→OQ,mem_append_right→OU,size_toArray→OW,length_cons→OY,map_cons→OZ,length_map→O0,append_nil→O5,of_mem_zip→O7,length_take→O8,getElem?_append_right→O9,getElem?_replicate→Pa,getElem?_append_left→Pb,getElem?_map→Ph,mem_of_getElem?→Pj,length_append→Pk,length_drop→Pm,length_singleton→Pq,map_nil→Pt,find?_cons→Pu,any_cons→Pw,length_nil→Px,nodup_nil→PB,lookup_cons→PC,forIn_cons→PD,cons_append→PJ,take_zero→PK,take_succ_cons→PL,drop_zero→PN,drop_succ_cons→PP,all_cons→PQ,range_succ_eq_map→PR,all_map→PV,getElem?_eq_getElem→PX,getElem_of_mem→P4,nil_append→P5,map_congr_left→P6,map_append→P7,length_range→P8,getElem?_range→Qa,drop_eq_getElem_cons→Qb,append_assoc→Qd,drop_length→Qe,zipIdx_cons→Qf,mem_cons→Qg,not_mem_nil→Qh,getElem?_cons_zero→Qi,getElem?_cons_succ→Qj,contains_cons→Qo,zip_cons_cons→Qq,replicate_zero→Qs,zip_nil_right→Qt,replicate_succ→Qu,foldl_cons→Qv,not_lt_nil→Qw,nil_lt_cons→Qx,cons_lt_cons_iff→Qy,filter_cons_of_pos→Qz,filter_cons_of_neg→QA,getElem_mem→QB,pairwise_map→QC,getD_eq_getElem?_getD→QD,map_map→QE,any_map→QF,toList_toArray→QG,getElem?_eq_none→QI,take_of_length_le→QJ,mem_singleton→QK,find?_cons_of_pos→QO,find?_cons_of_neg→QP,drop_eq_nil_of_le→QQ,set_cons_zero→QR,set_cons_succ→QS,mem_nil_iff→QX,take_succ_eq_append_getElem→QY,length_filter_le→QZ,length_zipIdx→Q0,take_take→Q2,take_append_of_le_length→Q3
open Int renaming fdiv_eq_ediv_of_nonneg→OV,toNat_natCast→Pl,emod_nonneg→QV,emod_lt_of_pos→QW,toNat_of_nonneg→Q1
open Nat renaming lt_of_lt_of_le→OB,lt_irrefl→OC,ne_of_lt→OD,le_trans→OG,le_of_lt→OH,ne_of_gt→OS,le_refl→OT,le_of_eq→O1,lt_succ_self→O2,zero_le→O3,le_succ→O6,lt_trans→Pz,lt_succ_of_lt→PH,min_self→PY,sub_zero→P9,lt_of_le_of_lt→Qc,le_add_right→Qk,add_lt_add_left→Ql,lt_add_of_pos_right→Qm,zero_add→Qn,sub_self→Qr,lt_or_ge→QH,le_total→QL,min_eq_left→QM,min_eq_right→QN
open Bool renaming false_ne_true→OX,and_eq_true→Pn,and_false→Pr,false_eq_true→PF,and_true→PZ,or_eq_true→P0,or_eq_false_iff→Qp,not_true→QT,not_false→QU,and_self→Q4
open Option renaming getD_none→Pp,isSome_map→Py
open PySem renaming Value→Se,World→Sf,Program→Sg,Addr→Si,Paired→Sj,Heap→Sl,sizeLine→Sn,mainGlobals→Sr,builtinsNs→Ss,bootBuiltins→Su,Around→Sv,Shared→Sw,Scope→Sx,wpAny→Sy,Expr→Sz,starEach→SA,Stmt→SD,wpAny_mono→SE,wpAny_Name→SF,wpAny_truthy_bool→SG,wpAny_execs_nil→SH,wpAny_pure→SJ,wpAny_bind→SK,wpAny_pyIter_list→SL,PassesOwn→SM,foldedSetIterable→SN,wpAny_passesOwn→SR,binaryOp→SU,compareOp→SV,CmpOp→SW,behindInMarks→SY,sizeLine_eq→SZ,codeAny→S0,callWith→S3,keywordEach→S4,recursionLimit→S5,cLine→S6,FuncData→S7,BindsTo→S8,wpAny_call→S9,codeAny_mono→Ta,wpAny_Call_Name_kw→Tc,NameKind→Td,Arguments→Te,concat_meets→Tf,noFill_tuple_add→Tg,seq_tuple_add→Th,IsPart→Ti,wpAny_field→Tj,wpAny_holding→Tl,wpAny_callSpecial?_slot→Tn,wpAny_call_entry→To,wpAny_typeOf→Tp,wpAny_newObj_type→Tq,evalPart_none→Tr,attributeBase→Tt,Keyword→Tu,tupleKind_room_in1→Tv,wpAny_standAt→Tw,wpAny_comprehension_free→Tx,wpAny_rule→Tz,wpAny_getItem_str_slice→TB,post_val_or_str→TC,wpAny_seqItems→TF,wpAny_setField→TH,IsZip→TJ,IsPair→TK,wpAny_setField_rec→TL,wpAny_onRaise→TN,wpAny_updateSeq_pair→TQ,wpAny_letGo→TR,wpAny_newTuple→TU,wpAny_attempt→TV,wpAny_isInstance→TY,wpAny_newList→T6,wpAny_collect_seq→T7,wpAny_dictEntries→T9,wpAny_dictEpoch→Ua,wpAny_typeNameOfWhole_keyiter→Ub,wpAny_typeNameOf_keyiter→Uc
open PySem.W renaming instObj→Q5,methodObj→Q6,Frag→Q7,lookIn→Q8,plainGet→Q9,findIn→Ra,isFn→Rb,plainGet_of→Rc,plainOver→Rf,takerIn→Rg,hasDictIn→Rh,makesIn→Ri,InitBack→Rj,emptyDict→Rl,make_core→Rm,makes_of→Rn,looks_findIn→Ro,Looks→Rp,keepIn→Rq,callWith_K→Rr,cellsFrom_some→Rt,fnOf→Ru,codeIn→Rv,nsIn→Rw,kitOne→Rx,kia_one→Ry,BoolBack→Rz,tabObj→RA,kla_fn→RB,OpenLaw→RC,kdl_call→RD,codeHdIn→RE,mg_of→RF,mg_none_of→RG,kas_ask→T1,kla_obj→T8
open PySem.Heap renaming lt_size→RH,get?_none_of_le→RJ,SameBut→RK,get?_push_of_some→RL,get?_push_size→RM,size_push→RN,get?_update_self→RO,get?_push_ne→RP,size_update→RQ,get?_update_ne→RT
open PyProof.Rows renaming callWith_type1→RU,slot_tuple_getitem→RV,envOfC→RW,IsTup→RX,Call_→RY,boot_str→RZ,boot_bool→R0,boot_int→R1,boot_tuple→R3,boot_list→R4,boot_all→R5,boot_max→R6,boot_min→R7,IsTup→Sq,Subscript_→Ts,SortKind→TZ,listUpdate_at→T2,get?_update_seq→T3,seqEpoch_at→T5
open PySem.F renaming slot_tuple_add→R8,entry_tuple_add→R9,args_tuple_add_2→Sa,slot_list_append→Sb,type_list_append→Sd
set_option maxHeartbeats 1000000
local macro_rules | `(‹1›)=>`(by first | exact Or.inl rfl | exact Or.inr rfl)
local macro_rules | `(‹2›)=>`(⟨rfl, rfl, rfl, by decide +kernel, rfl, by decide +kernel, by decide +kernel⟩)
local macro_rules | `(‹0›)=>`(by omega)
namespace L2
open PySem PySem.Spec PyProof.Rows
abbrev Key:=Sum Int Str
def rq:Key->Se->Bool
 |.inl k,v=>Value.isInt k v
 |.inr x,v=>Value.isStrOf x v
def MA(w:Sf):Key->Int
 |.inl k=>hashInt k
 |.inr x=>hashStr w x
def dH:∀{k:Key}{v:Se},rq k v=true->(∃i t,k=Sum.inl i/\v=Value.int i t)\/(∃x t,k=Sum.inr x/\v=Value.str x t)
 |.inl i,v,h=>by
  obtain⟨t,e⟩:=Value.isInt_shape (k:=i) (v:=v) h;exact .inl ⟨i,t,rfl,e⟩
 |.inr x,v,h=>by
  obtain⟨t,e⟩:=Value.isStrOf_shape (x:=x) (v:=v) h;exact .inr ⟨x,t,rfl,e⟩
def By(i:Int)(t:Tok):rq (.inl i) (.int i t)=true:=by simp[rq,Value.isInt]
def CT(x:Str)(t:Tok):rq (.inr x) (.str x t)=true:=by simp[rq,Value.isStrOf]
def Ip(a b:Int):decide ((Sum.inl a:Key)=Sum.inl b)=(a==b):=by
 by_cases e:a=b
 ·subst e;simp
 ·have h:¬(Sum.inl a:Key)=Sum.inl b:=λq=>e (Sum.inl.inj q);rw[decide_eq_false h];exact(beq_eq_false_iff_ne.mpr e).symm
def Ji(a b:Str):decide ((Sum.inr a:Key)=Sum.inr b)=decide (a=b):=by
 by_cases e:a=b
 ·subst e;simp
 ·have h:¬(Sum.inr a:Key)=Sum.inr b:=λq=>e (Sum.inr.inj q);rw[decide_eq_false h,decide_eq_false e]
def HY(a:Int)(b:Str):decide ((Sum.inl a:Key)=Sum.inr b)=false:=decide_eq_false (λq=>nomatch q)
def HL(a:Str)(b:Int):decide ((Sum.inr a:Key)=Sum.inl b)=false:=decide_eq_false (λq=>nomatch q)
def dr(prog:Sg)(w:Sf):PySem.KeyKind prog w Key where
 is:=rq
 hash:=MA w
 inj:=λv a b ha hb=>by
  rcases dH ha with⟨i,t,rfl,rfl⟩|⟨x,t,rfl,rfl⟩
  ·rcases dH hb with⟨j,u,rfl,e⟩|⟨y,u,rfl,e⟩
   ·injection e with e1 _;rw[e1]
   ·exact nomatch e
  ·rcases dH hb with⟨j,u,rfl,e⟩|⟨y,u,rfl,e⟩
   ·exact nomatch e
   ·injection e with e1 _;rw[e1]
 byValue:=λk v h=>by
  rcases dH h with⟨i,t,rfl,rfl⟩|⟨x,t,rfl,rfl⟩<;>rfl
 pyHash:=λhv h=>by
  rcases dH hv with⟨i,t,rfl,rfl⟩|⟨x,t,rfl,rfl⟩
  ·exact wpAny_pyHash_int h
  ·exact wpAny_pyHash_str h
 eqBool:=λhu hv h=>by
  rcases dH hu with⟨i,t,rfl,rfl⟩|⟨x,t,rfl,rfl⟩
  ·rcases dH hv with⟨j,u,rfl,rfl⟩|⟨y,u,rfl,rfl⟩
   ·rw[Ip]at h;exact wpAny_eqBool_int h
   ·rw[HY]at h;exact SeqAt.EqAt.int_str i t y u _ _ _ _ h
  ·rcases dH hv with⟨j,u,rfl,rfl⟩|⟨y,u,rfl,rfl⟩
   ·rw[HL]at h;exact SeqAt.EqAt.str_int x t j u _ _ _ _ h
   ·rw[Ji]at h;exact wpAny_eqBool_str h
 «strs»:=λk x t v h=>by
  rcases dH h with⟨i,u,rfl,e⟩|⟨y,u,rfl,e⟩
  ·exact nomatch e
  ·injection e with e1 _;subst e1;cases v<;>rfl
theorem Ae(prog:Sg)(w:Sf)(k:Key)(v:Se):(dr prog w).is k v=rq k v:=rfl
def yf(prog:Sg)(w:Sf)(i:Int)(t:Tok):(dr prog w).is (.inl i) (.int i t)=true:=By i t
def yF(prog:Sg)(w:Sf)(x:Str)(t:Tok):(dr prog w).is (.inr x) (.str x t)=true:=CT x t
inductive V where
 |non|bl (b:Bool)|int (i:Int)|str (x:Str)|byt (b:Array UInt8)|flt (b:UInt64)|ref (a:Si)|ty (n:String)
 deriving DecidableEq
def RelV:V->Se->Prop
 |.non,u=>u=Value.none
 |.bl b,u=>u=Value.bool b
 |.int i,u=>∃t,u=Value.int i t
 |.str x,u=>∃t,u=Value.str x t
 |.byt b,u=>∃t,u=Value.bytes b t
 |.flt b,u=>∃t,u=Value.float b t
 |.ref a,u=>u=Value.ref a
 |.ty n,u=>u=Value.type n
abbrev Vals:List V->List Se->Prop:=Sj RelV
def Vals.length{xs:List V}{us:List Se}(r:Vals xs us):xs.length=us.length:=Paired.length r
def Vals.get:∀{xs:List V}{us:List Se}{i:Nat}{x:V},Vals xs us->xs[i]?=some x->∃u,us[i]?=some u/\RelV x u
 |_,_,_,_,.nil,e=>by simp at e
 |_,_,0,_,.cons r _,e=>by simp at e;subst e;exact⟨_,rfl,r⟩
 |_,_,i+1,x,.cons _ t,e=>by
  obtain⟨u,h1,h2⟩:=Vals.get (i:=i) (x:=x) t (by simpa using e);exact⟨u,by simpa using h1,h2⟩
def Vals.append:∀{xs ys:List V}{us ws:List Se},Vals xs us->Vals ys ws->Vals (xs++ys) (us++ws)
 |_,_,_,_,.nil,s=>s
 |_,_,_,_,.cons r t,s=>.cons r (Vals.append t s)
def Vals.take:∀{xs:List V}{us:List Se}(n:Nat),Vals xs us->Vals (xs.take n) (us.take n)
 |_,_,0,_=>.nil
 |_,_,_+1,.nil=>.nil
 |_,_,n+1,.cons r t=>.cons r (Vals.take n t)
def Vals.drop:∀{xs:List V}{us:List Se}(n:Nat),Vals xs us->Vals (xs.drop n) (us.drop n)
 |_,_,0,r=>r
 |_,_,_+1,.nil=>.nil
 |_,_,n+1,.cons _ t=>Vals.drop n t
def wY:Option V->Option Se->Prop
 |some v,some u=>RelV v u
 |none,none=>True
 |_,_=>False
def KV{κ:Type}:List (κ×V)->List (κ×Se)->Prop:=Sj λ(p:κ×V)(q:κ×Se)=>p.1=q.1/\RelV p.2 q.2
def kV:Key->V
 |.inl i=>.int i
 |.inr x=>.str x
inductive HO where
  |lst (xs:List V)
  |tup (xs:List V)
  |dK (kvs:List (Key×V))|dT (kvs:List (List Key×V))
  |set (S:Int->Bool) (n:Nat)
  |ins (C dx:Si) (fs:List (Str×V))
  |own (x:Si)
  |xd (fs:List (Str×V))
  |met (f x:Si)
  |rng (lo hi:Int)
  |frz (o:Obj) (u:HO)
  |tbl (ps:Array Se)
  |ext (φ:(Si->Prop)->Sl->Prop)
abbrev Hp:=Si->Option HO
def upd(H:Hp)(a:Si)(o:HO):Hp:=λb=>if b=a then some o else H b
def bI{H:Hp}{a:Si}{o:HO}:upd H a o a=some o:=by unfold upd;rw[if_pos rfl]
def bp{H:Hp}{a b:Si}{o:HO}(h:b≠a):upd H a o b=H b:=by unfold upd;rw[if_neg h]
def Gq{H:Hp}{a:Si}{o u:HO}:upd (upd H a o) a u=upd H a u:=by
 funext b;unfold upd;split<;>rfl
def Ki{H:Hp}{a b:Si}{o u:HO}(h:H a=some o)(h':H b=some u)(d:o≠u):a≠b:=by
 intro e;subst e;rw[h]at h';exact d (Option.some.inj h')
def bH{H:Hp}{a b:Si}{o:HO}(h:H a=some o)(h':H b=none):a≠b:=by
 intro e;subst e;rw[h]at h';cases h'
section
variable(P:Sg)(w:Sf)
def dq(H:Hp)(h:Sl)(a:Si):HO->Prop
 |.lst xs=>xs.length<=Sn/\∃(its:List Se)(n:Nat),Vals xs its/\h.get? a=some {cls:=.type "list",data:=.seq its.toArray n}
 |.tup xs=>xs.length<=Sn/\∃its:List Se,Vals xs its/\Sq h a its.toArray
 |.dK kvs=>kvs.length<=Sn/\(a==sysModules)=false/\∃vs,KV kvs vs/\h.DictOf (dr P w) a vs
 |.dT kvs=>kvs.length<=Sn/\(a==sysModules)=false/\∃xs:List (List Key×Si×Se),
   Sj (λ(p:List Key×V)(q:List Key×Si×Se)=>p.1=q.1/\H q.2.1=some (.tup (p.1.map kV))/\RelV p.2 q.2.2) kvs xs/\
   ∃o es ep,h.get? a=some o/\o.ExactDict/\o.data=.dict es ep/\es.toList=xs.map (entryOfKey (tupleKind (dr P w)))/\(xs.map (·.1)).Nodup
 |.set S n=>h.SetOf (intKind P w) a S n
 |.ins C dx fs=>H dx=some (.own a)/\fs.length<=1000/\dx≠a/\h.get? a=some (Q5 C dx)/\
   ∃mA,h.Ns1 dx mA/\(∀f,wY (fs.lookup f) (mA f))/\PySem.Within mA (fs.map (·.1))
 |.own _=>∃o,h.get? a=some o
 |.xd fs=>∃mA,h.Ns1 a mA/\∀f,wY (fs.lookup f) (mA f)
 |.rng lo hi=>∃t u v,h.get? a=some {cls:=.type "range",data:=.fields #[.int lo t,.int hi u,.int 1 v]}
 |.frz o u=>h.get? a=some o/\dq H h a u
 |.tbl ps=>h.get? a=some {cls:=.none,data:=.fields ps}
 |.met f x=>h.get? a=some (Q6 (.ref f) (.ref x))
 |.ext φ=>φ (λb=>H b=some (.own a)) h/\(∃o,h.get? a=some o)/\∀(S1 S2:Si->Prop)(h1 h2:Sl),φ S1 h1->(∀b,S1 b->S2 b)->(∀b o,(b=a\/S1 b)->h1.get? b=some o->h2.get? b=some o)->φ S2 h2
def pA(H:Hp)(h:Sl):Prop:=∀a o,H a=some o->dq P w H h a o
end
section
variable{P:Sg}{w:Sf}{H H':Hp}{h h':Sl}{a:Si}{o:HO}
def dq.lt(x:dq P w H h a o):a<h.objs.size:=by
 cases o with
 |lst xs=>obtain⟨_,_,_,_,e⟩:=x;exact RH e
 |tup xs=>obtain⟨_,_,_,p⟩:=x;exact p.lt
 |dK kvs=>obtain⟨_,_,_,_,o,_,_,e,_⟩:=x;exact RH e
 |dT kvs=>obtain⟨_,_,_,_,o,_,_,e,_⟩:=x;exact RH e
 |set S n=>obtain⟨o,_,_,_,e,_⟩:=x;exact RH e
 |ins C dx fs=>obtain⟨_,_,_,e,_⟩:=x;exact RH e
 |own y=>obtain⟨_,e⟩:=x;exact RH e
 |xd fs=>obtain⟨_,⟨_,_,_,e,_⟩,_⟩:=x;exact RH e
 |rng lo hi=>obtain⟨_,_,_,e⟩:=x;exact RH e
 |frz ob u=>obtain⟨e,_⟩:=x;exact RH e
 |tbl ps=>exact RH (show h.get? a=some _ from x)
 |met f y=>exact RH (show h.get? a=some _ from x)
 |ext φ=>obtain⟨_,⟨_,e⟩,_⟩:=x;exact RH e
def Paired.mapP{α β:Type}{F G:α->β->Prop}:∀{l₁:List α}{l₂:List β},Sj F l₁ l₂->(∀a b,F a b->G a b)->Sj G l₁ l₂
 |_,_,.nil,_=>.nil
 |_,_,.cons r t,f=>.cons (f _ _ r) (Paired.mapP t f)
def dq.stay(x:dq P w H h a o)(k:∀b u,(b=a\/H b=some (.own a))->h.get? b=some u->h'.get? b=some u)
  (ho:∀b,H b=some (.own a)->H' b=some (.own a)) (ht:∀b xs,H b=some (.tup xs)->H' b=some (.tup xs)):dq P w H' h' a o:=by
 induction o with
 |lst xs=>obtain⟨z,its,n,r,e⟩:=x;exact⟨z,its,n,r,k _ _ (.inl rfl) e⟩
 |tup xs=>obtain⟨z,its,r,ob,e,c⟩:=x;exact⟨z,its,r,ob,k _ _ (.inl rfl) e,c⟩
 |dK kvs=>obtain⟨z,y,vs,r,ob,es,ep,e,c⟩:=x;exact⟨z,y,vs,r,ob,es,ep,k _ _ (.inl rfl) e,c⟩
 |dT kvs=>
  obtain⟨z,y,xs,r,ob,es,ep,e,c⟩:=x;exact⟨z,y,xs,Paired.mapP r λp q z=>⟨z.1,ht _ _ z.2.1,z.2.2⟩,ob,es,ep,k _ _ (.inl rfl) e,c⟩
 |set S n=>obtain⟨ob,es,ep,t,e,c⟩:=x;exact⟨ob,es,ep,t,k _ _ (.inl rfl) e,c⟩
 |ins C dx fs=>
  obtain⟨d,z,ne,e,mA,⟨od,es,ep,e2,c⟩,r⟩:=x;exact⟨ho _ d,z,ne,k _ _ (.inl rfl) e,mA,⟨od,es,ep,k _ _ (.inr d) e2,c⟩,r⟩
 |own y=>obtain⟨ob,e⟩:=x;exact⟨ob,k _ _ (.inl rfl) e⟩
 |xd fs=>obtain⟨mA,⟨od,es,ep,e,c⟩,r⟩:=x;exact⟨mA,⟨od,es,ep,k _ _ (.inl rfl) e,c⟩,r⟩
 |rng lo hi=>obtain⟨t,u,v,e⟩:=x;exact⟨t,u,v,k _ _ (.inl rfl) e⟩
 |frz ob u ih=>obtain⟨e,q⟩:=x;exact⟨k _ _ (.inl rfl) e,ih q⟩
 |tbl ps=>
  have e:h.get? a=some {cls:=.none,data:=.fields ps}:=x;show h'.get? a=some {cls:=.none,data:=.fields ps};exact k a _ (.inl rfl) e
 |met f y=>
  have e:h.get? a=some (Q6 (.ref f) (.ref y)):=x;show h'.get? a=some (Q6 (.ref f) (.ref y));exact k a _ (.inl rfl) e
 |ext φ=>obtain⟨p,⟨o,e⟩,st⟩:=x;exact⟨st _ _ _ _ p ho k,⟨o,k _ _ (.inl rfl) e⟩,st⟩
def pA.lt(x:pA P w H h)(e:H a=some o):a<h.objs.size:=(x a o e).lt
def pA.fresh(x:pA P w H h)(e:h.objs.size<=a):H a=none:=by
 cases q:H a with
 |none=>rfl
 |some u=>exact absurd (OB (x.lt q) e) (OC _)
def pA.kept(x:pA P w H h)(k:∀b u,h.get? b=some u->h'.get? b=some u):pA P w H h':=λa o e=>
 (x a o e).stay (λb u _ q=>k b u q) (λ_ q=>q) λ_ _ q=>q
def pA.laid(x:pA P w H h)(k:∀b u,h.get? b=some u->h'.get? b=some u)(hp:h.objs.size<=a)(new:dq P w (upd H a o) h' a o):pA P w (upd H a o) h':=λb u e=>by
 have hn:=x.fresh hp;by_cases hb:b=a
 ·subst hb;rw[bI]at e;cases e;exact new
 ·rw[bp hb]at e;exact(x b u e).stay (λc v _ q=>k c v q) (λc q=>by rw[bp (bH q hn)];exact q) λc xs q=>by rw[bp (bH q hn)];exact q
end
def Rd(H:Hp)(a:Si)(u:HO):Prop:=H a=some u\/∃o,H a=some (.frz o u)
def Rd.ok{P:Sg}{w:Sf}{H:Hp}{h:Sl}{a:Si}{u:HO}(r:Rd H a u)(x:pA P w H h):dq P w H h a u:=by
 rcases r with r|⟨o,r⟩
 ·exact x a u r
 ·obtain⟨_,q⟩:=x a _ r;exact q
def JG:Option HO->Prop
 |some (.lst _)=>True
 |some (.dK _)=>True
 |some (.dT _)=>True
 |some (.set _ _)=>True
 |some (.ins _ _ _)=>True
 |some (.ext _)=>True
 |_=>False
section
variable{P:Sg}{w:Sf}{H:Hp}{h h':Sl}{x e:Si}{o':HO}
def pA.write(ok:pA P w H h)(mu:JG (H x))(he:e=x\/H e=some (.own x))(k:∀b u,b≠e->h.get? b=some u->h'.get? b=some u)(heo:∃u,h'.get? e=some u)
  (new:dq P w (upd H x o') h' x o'):pA P w (upd H x o') h':=λb u q=>by
 have nown:∀c y,H c=some (.own y)->c≠x:=λc y r z=>by subst z;rw[r]at mu;exact mu
 have ntup:∀c xs,H c=some (.tup xs)->c≠x:=λc xs r z=>by subst z;rw[r]at mu;exact mu
 by_cases hb:b=x
 ·subst hb;rw[bI]at q;cases q;exact new
 ·rw[bp hb]at q;by_cases hbe:b=e
  ·have q':H b=some (.own x):=by
    rcases he with z|z
    ·exact absurd (hbe.trans z) hb
    ·rw[hbe];exact z
   rw[q]at q';cases q';obtain⟨v,hv⟩:=heo;exact⟨v,by rw[hbe];exact hv⟩
  ·refine(ok b u q).stay (λc v hc r=>k c v ?_ r) (λc r=>by rw[bp (nown c b r)];exact r) λc xs r=>by rw[bp (ntup c xs r)];exact r
   rcases hc with rfl|hc
   ·exact hbe
   ·rintro rfl;rcases he with z|z
    ·exact nown c b hc z
    ·rw[hc]at z;cases z;exact hb rfl
end
structure Un(fs ex:List Si)(H H':Hp)(h h':Sl):Prop where
 keep:∀b o,h.get? b=some o->H b=none->b∉fs->b∉ex->h'.get? b=some o
 slot:∀b o,h.get? b=some o->H b=none->b∈fs->b∉ex->∃sl,h'.get? b=some {o with slots:=sl}
 free:∀b o,h.get? b=some o->H b=none->b∉ex->H' b=none
 there:∀b o,h.get? b=some o->b∉ex->∃o',h'.get? b=some o'
 tups:∀b xs,H b=some (.tup xs)->H' b=some (.tup xs)
 frzs:∀b o u,H b=some (.frz o u)->H' b=some (.frz o u)
 tbls:∀b ps,H b=some (.tbl ps)->∃more,H' b=some (.tbl (ps++more))
section
variable{fs fs' ex ex':List Si}{H H1 H2:Hp}{h h1 h2 h':Sl}{a x e:Si}{o:HO}
def Un.any(u:Un fs ex H H1 h h1){b:Si}{ob:Obj}(q:h.get? b=some ob)(n:H b=none)(hx:b∉ex):∃sl,h1.get? b=some {ob with slots:=sl}:=by
 by_cases hb:b∈fs
 ·exact u.slot b ob q n hb hx
 ·exact⟨ob.slots,u.keep b ob q n hb hx⟩
def Un.kept(k:∀b u,h.get? b=some u->h'.get? b=some u):Un fs ex H H h h':=
 ⟨λb ob q _ _ _=>k b ob q,λb ob q _ _ _=>⟨ob.slots,k b ob q⟩,λ_ _ _ n _=>n,λb ob q _=>⟨ob,k b ob q⟩,λ_ _ q=>q,λ_ _ _ q=>q,λ_ ps q=>⟨#[],by rw[q];simp⟩⟩
def Un.refl:Un fs ex H H h h:=Un.kept λ_ _ q=>q
def Un.laid(k:∀b u,h.get? b=some u->h'.get? b=some u)(hp:h.objs.size<=a)(hn:H a=none):Un fs ex H (upd H a o) h h' where
 keep:=λb u q _ _ _=>k b u q
 slot:=λb u q _ _ _=>⟨u.slots,k b u q⟩
 free:=λb u q n _=>by rw[bp (OD (OB (RH q) hp))];exact n
 there:=λb u q _=>⟨u,k b u q⟩
 tups:=λb xs q=>by rw[bp (bH q hn)];exact q
 frzs:=λb u xs q=>by rw[bp (bH q hn)];exact q
 tbls:=λb ps q=>⟨#[],by rw[bp (bH q hn),q];simp⟩
def Un.write(mu:JG (H x))(he:e=x\/H e=some (.own x))(k:∀b u,b≠e->h.get? b=some u->h'.get? b=some u)(heo:∃u,h'.get? e=some u):Un fs ex H (upd H x o) h h':=by
 have hx:∀b,H b=none->b≠x:=λb n z=>by subst z;rw[n]at mu;exact mu
 have hb:∀b,H b=none->b≠e:=λb n z=>by
  subst z;rcases he with r|r
  ·exact hx b n r
  ·rw[n]at r;cases r
 have hm:∀b u,H b=some u->¬JG (some u)->b≠x:=λb u q nm z=>by subst z;rw[q]at mu;exact nm mu
 refine⟨λb u q n _ _=>k b u (hb b n) q,λb u q n _ _=>⟨u.slots,k b u (hb b n) q⟩,λb u q n _=>by rw[bp (hx b n)];exact n,λb u q _=>?_,
  λb xs q=>by rw[bp (hm b _ q λz=>z)];exact q,λb u xs q=>by rw[bp (hm b _ q λz=>z)];exact q,λb ps q=>⟨#[],by rw[bp (hm b _ q λz=>z),q];simp⟩⟩
 by_cases hbe:b=e
 ·subst hbe;exact heo
 ·exact⟨u,k b u hbe q⟩
end
def LQ(h:Sl)(H:Hp):List Si:=(List.range h.objs.size).filter λa=>(H a).isSome
def wy(h:Sl)(H:Hp):Sl:=PySem.W.hideAll h (LQ h H)
def BW(h:Sl)(H:Hp):(wy h H).objs.size=h.objs.size:=PySem.W.hideAll_size _ _
def sY{h:Sl}{H:Hp}{b:Si}{o:Obj}(e:h.get? b=some o)(n:H b=none):(wy h H).get? b=some o:=
 PySem.W.hideAll_get _ e λhm=>by
  have q:(H b).isSome=true:=(List.mem_filter.mp hm).2;rw[n]at q;simp at q
def G5{h:Sl}{H:Hp}{b:Si}{o:Obj}(e:(wy h H).get? b=some o):h.get? b=some o/\H b=none:=by
 have e':h.get? b=some o:=PySem.W.of_hideAll (LQ h H) e;refine⟨e',?_⟩;cases q:H b with
 |none=>rfl
 |some x=>
  have hm:b∈LQ h H:=List.mem_filter.mpr ⟨List.mem_range.mpr (RH e'),by simp[q]⟩;have z:(wy h H).get? b=none:=PySem.W.hideAll_none (LQ h H) hm;rw[z]at e;cases e
def Fq(g h:Sl)(L:Si):List (Si×Obj):=(List.range h.objs.size).filterMap λa=>if a=L\/(g.get? a).isSome=true then none else(h.get? a).map λo=>(a,o)
def rest(g h:Sl)(L d:Si):List (Si×Obj):=(Fq g h L).filter λp=>decide (p.1≠d)
structure Mod(K:Q7)(mg:Str->Option Se)(base:Sl):Prop where
 kin:K.In base
 glob:base.Ns Sr mg
 blt:∃mb,base.Ns Ss mb/\∀x:Str,x≠"__name__"->mb x=Su x
 nolimit:base.NoLimit
structure Cx where
 prog:Sg
 w:Sf
 K:Q7
 mg:Str->Option Se
 base:Sl
 A:Sv
 N:List Str
 s₀:Sw
 H₀:Hp
 env:Env
 outer:List Env
 stack:List Env
 ex:List Si
 fn:Str->Bool
 calm:Bool
 pn:List (Si×Obj)
 xe:Se->Sw->Prop
def frs(l:List Env):List Si:=l.filterMap (·.frame)
abbrev Cx.fs(X:Cx):List Si:=frs X.outer
def Ig(sc:Sx)(x:Str):Prop:=sc.names.lookup x=some .local\/sc.names.lookup x=some .cell\/sc.names.lookup x=some .free
def Loc(sc:Sx)(x:Str):Prop:=sc.names.lookup x=some .local\/sc.names.lookup x=some .cell
def Look(env:Env)(h:Sl)(m:Str->Option Se)(x:Str)(u:Se):Prop:=
 (env.kindOf x=some .local/\m x=some u)\/((env.kindOf x=some .cell\/env.kindOf x=some .free)/\∃c,env.cells.lookup x=some c/\h.IsCell c (some u))
structure Cx.Ok(X:Cx):Prop where
 mod:Mod X.K X.mg X.base
 kind:X.env.scope.kind=.function
 glob:X.env.globals=Sr
 blt:X.env.builtins=Ss
 above:X.s₀.heap.objs.size<=X.env.locals
 inj:∀x y c,X.env.cells.lookup x=some c->X.env.cells.lookup y=some c->x=y
 has:∀x,(X.env.kindOf x=some .cell\/X.env.kindOf x=some .free)->∃c,X.env.cells.lookup x=some c
 cab:∀x c,X.fn x=true->X.env.cells.lookup x=some c->X.s₀.heap.objs.size<=c
 hd:X.calm=true->X.A.handled=none
 frames:X.A.frames=some X.stack
 stk:X.stack=X.outer\/(X.stack=X.env::X.outer/\X.env.frame=some X.env.locals)
 exf:∀b∈X.ex,b≠X.env.locals/\∀x c,X.env.cells.lookup x=some c->c≠b
 bs:∀b o,X.base.get? b=some o->X.s₀.heap.get? b=some o/\X.H₀ b=none
 bsz:X.base.objs.size<=X.s₀.heap.objs.size
 noex:∀b o,X.base.get? b=some o->b∉X.ex
 exfs:∀b∈X.ex,b∉X.fs
 funs:X.s₀.heap.FunFrames X.base X.outer
 frf:∀b∈X.fs,X.H₀ b=none
structure Inv(X:Cx)(pins:List (Si×Obj))(σ:List (Option V))(H:Hp)(s:Sw):Prop where
 ok:X.Ok
 os:s.os=X.s₀.os
 bare:AllBare s.gens
 base:Un X.fs X.ex X.H₀ H X.s₀.heap s.heap
 loc:∃m,s.heap.Ns X.env.locals m/\∀(i:Nat)(x:Str)(v:V),X.N[i]?=some x->σ[i]?=some (some v)->Ig X.env.scope x->∃u,RelV v u/\Look X.env s.heap m x u
 cell:∀x c,X.env.cells.lookup x=some c->∃v,s.heap.IsCell c v
 free:H X.env.locals=none
 freeC:∀x c,X.env.cells.lookup x=some c->H c=none
 pin:∀p∈X.pn++pins,s.heap.get? p.1=some p.2/\H p.1=none/\p.1≠X.env.locals/\p.1∉X.fs/\∀v,p.2.data≠.cell v
 hok:pA X.prog X.w H s.heap
 len:σ.length=X.N.length
section
variable{X:Cx}{pins:List (Si×Obj)}{σ:List (Option V)}{H H':Hp}{s:Sw}{h':Sl}
def Cx.Ok.nofr(ok:X.Ok){b:Si}{o:Obj}(e:X.base.get? b=some o):b∉X.fs:=λhb=>by
 have:=(ok.funs.mem hb).1
 rw[e]at this;cases this
def Inv.bs(I:Inv X pins σ H s):∀b o,X.base.get? b=some o->s.heap.get? b=some o/\H b=none:=λb o e=>
 ⟨I.base.keep b o (I.ok.bs b o e).1 (I.ok.bs b o e).2 (I.ok.nofr e) (I.ok.noex b o e),I.base.free b o (I.ok.bs b o e).1 (I.ok.bs b o e).2 (I.ok.noex b o e)⟩
def Inv.bk(I:Inv X pins σ H s):∀b o,X.base.get? b=some o->s.heap.get? b=some o:=λb o e=>(I.bs b o e).1
def Inv.mod(I:Inv X pins σ H s):Mod X.K X.mg X.base:=I.ok.mod
def Inv.kIn(I:Inv X pins σ H s):X.K.In s.heap:=I.ok.mod.kin.keeps I.bk
def Inv.nolimit(I:Inv X pins σ H s):s.heap.NoLimit:=I.ok.mod.nolimit.keeps I.bk
def Inv.lt(I:Inv X pins σ H s):X.env.locals<s.heap.objs.size:=let ⟨_,hn,_⟩:=I.loc;hn.lt
def Inv.sz(I:Inv X pins σ H s):X.s₀.heap.objs.size<=s.heap.objs.size:=OG I.ok.above (OH I.lt)
def Inv.nofs(I:Inv X pins σ H s){a:Si}(h:s.heap.objs.size<=a):a∉X.fs:=λhb=>by
 obtain⟨_,o,ho,_⟩:=I.ok.funs.mem hb;exact absurd (OB (RH ho) (OG I.sz h)) (OC _)
def Inv.cne(I:Inv X pins σ H s):∀x c,X.env.cells.lookup x=some c->c≠X.env.locals:=λx c e z=>by
 obtain⟨v,o,ho,hd⟩:=I.cell x c e;obtain⟨m,⟨o',es,ep,ho',hd',_⟩,_⟩:=I.loc;rw[z,ho']at ho;cases ho;rw[hd']at hd;cases hd
def Inv.funs(I:Inv X pins σ H s):s.heap.FunFrames X.base X.outer:=by
 have all:∀(l:List Env),(∀b∈frs l,b∈X.fs)->X.s₀.heap.FunFrames X.base l->s.heap.FunFrames X.base l:=by
  intro l
  induction l with
  |nil=>intro _ _;trivial
  |cons env r ih=>
   intro hs hl;obtain⟨hk,⟨L,o,hf,hn,ho,hd⟩,hr⟩:=hl;have hL:L∈X.fs:=hs L (by unfold frs;rw[OI,hf];exact OJ);obtain⟨sl,e⟩:=I.base.slot L o ho (I.ok.frf L hL) hL λz=>I.ok.exfs L z hL;exact⟨hk,⟨L,_,hf,hn,e,hd⟩,ih (λb hb=>hs b (by unfold frs;rw[OI,hf];exact OL _ hb)) hr⟩
 exact all X.outer (λ_ hb=>hb) I.ok.funs
def Inv.stack(I:Inv X pins σ H s):s.heap.FunFrames X.base X.stack:=by
 rcases I.ok.stk with e|⟨e,hf⟩
 ·rw[e];exact I.funs
 ·rw[e];obtain⟨m,hn,_⟩:=I.loc;refine .cons (by rw[I.ok.kind];decide) hf hn ?_ I.funs;exact RJ (OG I.ok.bsz I.ok.above)
def Inv.stkSub(I:Inv X pins σ H s):∀b∈frs X.stack,b∈X.env.locals::X.fs:=λb hb=>by
 rcases I.ok.stk with e|⟨e,hf⟩
 ·rw[e]at hb;exact OL _ hb
 ·rw[e]at hb;unfold frs at hb;rw[OI,hf]at hb;exact hb
def Inv.stkFree(I:Inv X pins σ H s):∀b∈frs X.stack,H b=none:=λb hb=>by
 rcases List.mem_cons.mp (I.stkSub b hb)with e|hb
 ·rw[e];exact I.free
 ·obtain⟨_,o,ho,_⟩:=I.ok.funs.mem hb;exact I.base.free b o ho (I.ok.frf b hb) λz=>I.ok.exfs b z hb
def Inv.step{g':Array GenState}{t':Nat}{d':Drawn}{ch:List Si}(I:Inv X pins σ H s)
  (hch:∀b∈ch,(b∈X.ex\/X.s₀.heap.objs.size<=b)/\b≠X.env.locals/\(∀x c,X.env.cells.lookup x=some c->c≠b)/\∀p∈X.pn++pins,p.1≠b)
  (keep:∀b o,b≠X.env.locals->b∉X.fs->b∉ch->s.heap.get? b=some o->H b=none->h'.get? b=some o)
  (slot:∀b o,b≠X.env.locals->b∈X.fs->b∉ch->s.heap.get? b=some o->H b=none->∃sl,h'.get? b=some {o with slots:=sl}) (free:∀b o,b∉ch->s.heap.get? b=some o->H b=none->H' b=none)
  (there:∀b o,b∉ch->s.heap.get? b=some o->∃o',h'.get? b=some o')
  (tups:∀b xs,H b=some (.tup xs)->H' b=some (.tup xs)) (frzs:∀b o u,H b=some (.frz o u)->H' b=some (.frz o u)) (tbls:∀b ps,H b=some (.tbl ps)->∃more,H' b=some (.tbl (ps++more)))
  (ns:∀m,s.heap.Ns X.env.locals m->h'.Ns X.env.locals m) (hok:pA X.prog X.w H' h') (hg:AllBare g'):
  Inv X pins σ H' {s with heap:=h',gens:=g',drawn:=d',toks:=t'}:=by
 have neL:∀b o,X.s₀.heap.get? b=some o->b≠X.env.locals:=λb o e=>OD (OB (RH e) I.ok.above);have neC:∀b o,X.s₀.heap.get? b=some o->b∉X.ex->b∉ch:=λb o e hx hb=>by
  rcases(hch b hb).1 with z|z
  ·exact hx z
  ·exact absurd (OB (RH e) z) (OC _)
 have cellK:∀x c,X.env.cells.lookup x=some c->∀v,s.heap.IsCell c v->h'.IsCell c v:=λx c e v ⟨o,ho,hd⟩=>by
  have nch:c∉ch:=λz=>(hch c z).2.2.1 x c e rfl;by_cases hc:c∈X.fs
  ·obtain⟨sl,q⟩:=slot c o (I.cne x c e) hc nch ho (I.freeC x c e);exact⟨_,q,hd⟩
  ·exact⟨o,keep c o (I.cne x c e) hc nch ho (I.freeC x c e),hd⟩
 refine⟨I.ok,I.os,hg,⟨λb o e n hb hx=>?_,λb o e n hb hx=>?_,λb o e n hx=>?_,λb o e hx=>?_,λb xs e=>tups b xs (I.base.tups b xs e),λb o xs e=>frzs b o xs (I.base.frzs b o xs e),λb ps e=>?_⟩,?_,λx c e=>?_,?_,λx c e=>?_,λp hp=>?_,hok,I.len⟩
 ·exact keep b o (neL b o e) hb (neC b o e hx) (I.base.keep b o e n hb hx) (I.base.free b o e n hx)
 ·obtain⟨sl,e1⟩:=I.base.slot b o e n hb hx;obtain⟨sl',e2⟩:=slot b _ (neL b o e) hb (neC b o e hx) e1 (I.base.free b o e n hx);exact⟨sl',e2⟩
 ·obtain⟨o',e1⟩:=I.base.there b o e hx;exact free b o' (neC b o e hx) e1 (I.base.free b o e n hx)
 ·obtain⟨o',e1⟩:=I.base.there b o e hx;exact there b o' (neC b o e hx) e1
 ·obtain⟨m1,e1⟩:=I.base.tbls b ps e;obtain⟨m2,e2⟩:=tbls b _ e1;exact⟨m1++m2,by rw[e2,Array.append_assoc]⟩
 ·obtain⟨m,hn,hl⟩:=I.loc;refine⟨m,ns m hn,λi x v e1 e2 e3=>?_⟩;obtain⟨u,r,l⟩:=hl i x v e1 e2 e3;refine⟨u,r,?_⟩;rcases l with l|⟨k,c,e,z⟩
  ·exact .inl l
  ·exact .inr ⟨k,c,e,cellK x c e _ z⟩
 ·obtain⟨v,z⟩:=I.cell x c e;exact⟨v,cellK x c e v z⟩
 ·obtain⟨m,⟨o,_,_,ho,_⟩,_⟩:=I.loc;exact free _ o (λz=>(hch _ z).2.1 rfl) ho I.free
 ·obtain⟨v,o,ho,hd⟩:=I.cell x c e;exact free c o (λz=>(hch c z).2.2.1 x c e rfl) ho (I.freeC x c e)
 ·obtain⟨e,n,ne,nf,d⟩:=I.pin p hp;have nch:p.1∉ch:=λz=>(hch p.1 z).2.2.2 p hp rfl;exact⟨keep p.1 p.2 ne nf nch e n,free p.1 p.2 nch e n,ne,nf,d⟩
def Inv.un{t':Nat}(I:Inv X pins σ H s)(u:Un X.fs [] H H' s.heap h')(hok:pA X.prog X.w H' h'):Inv X pins σ H' {s with heap:=h',toks:=t'}:=by
 obtain⟨m,⟨o,es,ep,ho,r⟩,_⟩:=id I.loc;obtain⟨sl,hL⟩:=u.any ho I.free (by simp);exact I.step (g':=s.gens) (d':=s.drawn) (ch:=[]) (λ_ z=>nomatch z) (λb o _ hb _ e n=>u.keep b o e n hb (by simp)) (λb o _ hb _ e n=>u.slot b o e n hb (by simp)) (λb o _ e n=>u.free b o e n (by simp)) (λb o _ e=>u.there b o e (by simp)) u.tups u.frzs u.tbls (λm' hm=>by
  obtain⟨o',es',ep',ho',r'⟩:=hm;rw[ho]at ho';cases ho';exact⟨_,es',ep',hL,r'⟩) hok I.bare
def Inv.call{g':Array GenState}{t':Nat}{d':Drawn}{ch:List Si}(I:Inv X pins σ H s)(u:Un (frs X.stack) ch H H' s.heap h')(hok:pA X.prog X.w H' h')(hg:AllBare g')
  (hch:∀b∈ch,(b∈X.ex\/X.s₀.heap.objs.size<=b)/\b≠X.env.locals/\(∀x c,X.env.cells.lookup x=some c->c≠b)/\∀p∈X.pn++pins,p.1≠b):
  Inv X pins σ H' {s with heap:=h',gens:=g',drawn:=d',toks:=t'}:=by
 obtain⟨m,⟨o,es,ep,ho,r⟩,_⟩:=id I.loc;obtain⟨sl,hL⟩:=u.any ho I.free λz=>(hch _ z).2.1 rfl;exact I.step (ch:=ch) hch (λb o hL hb hc e n=>u.keep b o e n (λz=>(List.mem_cons.mp (I.stkSub b z)).elim hL hb) hc) (λb o _ _ hc e n=>u.any e n hc) (λb o hc e n=>u.free b o e n hc) (λb o hc e=>u.there b o e hc) u.tups u.frzs u.tbls (λm' hm=>by
  obtain⟨o',es',ep',ho',r'⟩:=hm;rw[ho]at ho';cases ho';exact⟨_,es',ep',hL,r'⟩) hok hg
def Inv.turned{t':Nat}{it:Si}(I:Inv X pins σ H s)(k:∀b o,b≠it->s.heap.get? b=some o->h'.get? b=some o)(hn:H it=none)(hL:it≠X.env.locals)
  (h1:it∈X.ex\/X.s₀.heap.objs.size<=it) (h2:∀x c,X.env.cells.lookup x=some c->c≠it) (h3:∀p∈X.pn++pins,p.1≠it):Inv X pins σ H {s with heap:=h',toks:=t'}:=by
 have nit:∀b u,H b=some u->b≠it:=λb u e z=>by rw[z,hn]at e;cases e
 refine I.step (g':=s.gens) (d':=s.drawn) (ch:=[it]) (λb hb=>?_) (λb o _ _ hc e _=>k b o (λz=>hc (by simp[z])) e) (λb o _ _ hc e _=>⟨o.slots,k b o (λz=>hc (by simp[z])) e⟩) (λ_ _ _ _ n=>n)
  (λb o hc e=>⟨o,k b o (λz=>hc (by simp[z])) e⟩) (λ_ _ e=>e) (λ_ _ _ e=>e) (λb ps e=>⟨#[],by rw[e];simp⟩) (λm hm=>?_) (λb u e=>?_) I.bare
 ·have e:b=it:=by simpa using hb
  subst e;exact⟨h1,hL,h2,h3⟩
 ·obtain⟨o,es,ep,ho,r⟩:=hm;exact⟨o,es,ep,k _ o (Ne.symm hL) ho,r⟩
 ·refine(I.hok b u e).stay (λc v hc q=>k c v ?_ q) (λ_ q=>q) λ_ _ q=>q;rcases hc with z|z
  ·rw[z];exact nit b u e
  ·exact nit c _ z
def Inv.tok(I:Inv X pins σ H s)(t:Nat):Inv X pins σ H {s with toks:=t}:=I.un (h':=s.heap) (t':=t) Un.refl I.hok
def Inv.kept{t':Nat}(I:Inv X pins σ H s)(k:∀b u,s.heap.get? b=some u->h'.get? b=some u):Inv X pins σ H {s with heap:=h',toks:=t'}:=I.un (Un.kept k) (I.hok.kept k)
def Inv.laid{a:Si}{o:HO}{t':Nat}(I:Inv X pins σ H s)(k:∀b u,s.heap.get? b=some u->h'.get? b=some u)(hp:s.heap.objs.size<=a)(new:dq X.prog X.w (upd H a o) h' a o):
  Inv X pins σ (upd H a o) {s with heap:=h',toks:=t'}:=I.un (Un.laid k hp (I.hok.fresh hp)) (I.hok.laid k hp new)
def Inv.write{x e:Si}{o:HO}{t':Nat}(I:Inv X pins σ H s)(mu:JG (H x))(he:e=x\/H e=some (.own x))(k:∀b u,b≠e->s.heap.get? b=some u->h'.get? b=some u)(heo:∃u,h'.get? e=some u)
  (new:dq X.prog X.w (upd H x o) h' x o):Inv X pins σ (upd H x o) {s with heap:=h',toks:=t'}:=I.un (Un.write mu he k heo) (I.hok.write mu he k heo new)
def Inv.pins_of{pins':List (Si×Obj)}(I:Inv X pins σ H s)(h:∀p∈pins',s.heap.get? p.1=some p.2/\H p.1=none/\p.1≠X.env.locals/\p.1∉X.fs/\∀v,p.2.data≠.cell v):Inv X pins' σ H s:=
 ⟨I.ok,I.os,I.bare,I.base,I.loc,I.cell,I.free,I.freeC,λp hp=>(List.mem_append.mp hp).elim (λz=>I.pin p (OM _ z)) (h p),I.hok,I.len⟩
def zi{N:List Str}(hN:N.Nodup){i j:Nat}{x:Str}(a:N[i]?=some x)(b:N[j]?=some x):i=j:=by
 obtain⟨h1,e1⟩:=List.getElem?_eq_some_iff.mp a;obtain⟨h2,e2⟩:=List.getElem?_eq_some_iff.mp b;exact(List.getElem_inj hN).mp (e1.trans e2.symm)
def vH{M:Model}{A:Sv}{E:Se->Sw->Prop}{i:Nat}{x:Str}{v:V}{u:Se}{Q:Unit->Sw->Prop}(I:Inv X pins σ H s)(hN:X.N.Nodup)(hi:X.N[i]?=some x)(hx:Loc X.env.scope x)(r:RelV v u)
  (h:∀s',Inv X pins (σ.set i (some v)) H s'->(∃a,RK a s.heap s'.heap/\(a=X.env.locals\/X.env.cells.lookup x=some a))->Q () s') (hf:X.fn x=true\/X.env.scope.names.lookup x=some .local:=by first|exact .inl rfl|exact .inr rfl|assumption):Sy M A (storeName X.env x u) Q E s:=by
 obtain⟨m,hn,hl⟩:=id I.loc;have hcls:(X.env.scope.kind==.class||(X.env.scope.kind==.module&&X.env.locals !=X.env.globals))=false:=by rw[I.ok.kind];rfl
 have hiσ:i<σ.length:=by rw[I.len];exact(List.getElem?_eq_some_iff.mp hi).1
 have cne:=I.cne;have tracked:∀{a:Si}{h':Sl},(∃o,s.heap.get? a=some o/\H a=none)->RK a s.heap h'->pA X.prog X.w H h':=λ{a h'} ha hs b ob e=>by
  obtain⟨_,_,hfree⟩:=ha;refine(I.hok b ob e).stay (λc w' hc q=>(hs.2 c ?_).trans q) (λ_ q=>q) λ_ _ q=>q;rintro rfl;rcases hc with rfl|hc
  ·rw[hfree]at e;cases e
  ·rw[hfree]at hc;cases hc
 rcases hx with hk|hk
 ·refine wpAny_storeName_local hk hn (λh' hn' hs=>?_) hcls;obtain⟨oL,_,_,hoL,_⟩:=id hn;refine h _ ⟨I.ok,I.os,I.bare,⟨λb o e n hb hx=>?_,λb o e n hb hx=>?_,I.base.free,λb o e hx=>?_,I.base.tups,I.base.frzs,I.base.tbls⟩,⟨_,hn',λj y v' e1 e2 e3=>?_⟩,λy c e=>?_,I.free,I.freeC,λp hp=>?_,tracked ⟨oL,hoL,I.free⟩ hs,by simpa using I.len⟩ ⟨_,hs,.inl rfl⟩
  ·exact(hs.2 b (OD (OB (RH e) I.ok.above))).trans (I.base.keep b o e n hb hx)
  ·obtain⟨sl,e1⟩:=I.base.slot b o e n hb hx;exact⟨sl,(hs.2 b (OD (OB (RH e) I.ok.above))).trans e1⟩
  ·obtain⟨o',e1⟩:=I.base.there b o e hx;exact⟨o',(hs.2 b (OD (OB (RH e) I.ok.above))).trans e1⟩
  ·by_cases hj:j=i
   ·subst hj;rw[hi]at e1;cases e1;rw[OO hiσ]at e2;cases e2;exact⟨u,r,.inl ⟨hk,by simp⟩⟩
   ·rw[OQ (Ne.symm hj)]at e2;obtain⟨u',r',q⟩:=hl j y v' e1 e2 e3;refine⟨u',r',?_⟩;rcases q with⟨k,e⟩|⟨k,c,e,z⟩
    ·refine .inl ⟨k,?_⟩
     have:y≠x:=λe=>hj (zi hN e1 (e ▸ hi))
     simp[this,e]
    ·exact .inr ⟨k,c,e,z.sameBut hs (cne y c e)⟩
  ·obtain⟨w',z⟩:=I.cell y c e;exact⟨w',z.sameBut hs (cne y c e)⟩
  ·obtain⟨e,n,ne,nf,d⟩:=I.pin p hp;exact⟨(hs.2 p.1 ne).trans e,n,ne,nf,d⟩
 ·have hfn:X.fn x=true:=by
   rcases hf with z|z
   ·exact z
   ·rw[z]at hk;cases hk
  obtain⟨c,hc⟩:=I.ok.has x (.inl hk);obtain⟨w',z⟩:=I.cell x c hc;refine wpAny_storeName_cell I.ok.kind hk hc z (λh' hc' hs=>?_);obtain⟨oc,hoc,hocd⟩:=id z;refine h {s with heap:=h'} ⟨I.ok,I.os,I.bare,⟨λb o e n hb hx=>?_,λb o e n hb hx=>?_,I.base.free,λb o e hx=>?_,I.base.tups,I.base.frzs,I.base.tbls⟩,⟨m,hn.sameBut hs (Ne.symm (cne x c hc)),λj y v' e1 e2 e3=>?_⟩,λy c' e=>?_,I.free,I.freeC,λp hp=>?_,tracked ⟨oc,hoc,I.freeC x c hc⟩ hs,by simpa using I.len⟩ ⟨c,hs,.inr hc⟩
  ·exact(hs.2 b (OD (OB (RH e) (I.ok.cab x c hfn hc)))).trans (I.base.keep b o e n hb hx)
  ·obtain⟨sl,e1⟩:=I.base.slot b o e n hb hx;exact⟨sl,(hs.2 b (OD (OB (RH e) (I.ok.cab x c hfn hc)))).trans e1⟩
  ·obtain⟨o',e1⟩:=I.base.there b o e hx;exact⟨o',(hs.2 b (OD (OB (RH e) (I.ok.cab x c hfn hc)))).trans e1⟩
  ·by_cases hj:j=i
   ·subst hj;rw[hi]at e1;cases e1;rw[OO hiσ]at e2;cases e2;exact⟨u,r,.inr ⟨.inl hk,c,hc,hc'⟩⟩
   ·rw[OQ (Ne.symm hj)]at e2;obtain⟨u',r',q⟩:=hl j y v' e1 e2 e3;refine⟨u',r',?_⟩;rcases q with q|⟨k,c',e,z'⟩
    ·exact .inl q
    ·refine .inr ⟨k,c',e,z'.sameBut hs ?_⟩;rintro rfl;exact hj (zi hN e1 (I.ok.inj _ _ _ e hc ▸ hi))
  ·by_cases hcc:c'=c
   ·subst hcc;exact⟨_,hc'⟩
   ·obtain⟨w2,z2⟩:=I.cell y c' e;exact⟨w2,z2.sameBut hs hcc⟩
  ·obtain⟨e,n,ne,nf,d⟩:=I.pin p hp;refine⟨(hs.2 p.1 ?_).trans e,n,ne,nf,d⟩;intro q;rw[q,hoc]at e;have q':oc=p.2:=Option.some.inj e;exact d w' (by rw[<-q'];exact hocd)
def xU{M:Model}{A:Sv}{E:Se->Sw->Prop}{i:Nat}{x:Str}{v:V}{u:Se}{Q:Unit->Sw->Prop}(I:Inv X pins σ H s)(hN:X.N.Nodup)(hi:X.N[i]?=some x)(hx:Loc X.env.scope x)(r:RelV v u)
  (h:∀s',Inv X pins (σ.set i (some v)) H s'->Q () s') (hf:X.fn x=true\/X.env.scope.names.lookup x=some .local:=by first|exact .inl rfl|exact .inr rfl|assumption):Sy M A (storeName X.env x u) Q E s:=
 vH I hN hi hx r (λs' I' _=>h s' I') hf
def Inv.call'{s':Sw}{ch:List Si}(I:Inv X pins σ H s)(ho:s'.os=s.os)(u:Un (frs X.stack) ch H H' s.heap s'.heap)(hok:pA X.prog X.w H' s'.heap)(hg:AllBare s'.gens)
  (hch:∀b∈ch,(b∈X.ex\/X.s₀.heap.objs.size<=b)/\b≠X.env.locals/\(∀x c,X.env.cells.lookup x=some c->c≠b)/\∀p∈X.pn++pins,p.1≠b):Inv X pins σ H' s':=by
 obtain⟨h',g',d',t',o'⟩:=s';have e:o'=s.os:=ho;subst e;exact I.call (g':=g') (t':=t') (d':=d') u hok hg hch
end
abbrev XK:=Se->Option Si->Hp->Prop
abbrev St:=List (Option V)
abbrev VK:=V->Hp->Prop
abbrev TE:=St->Hp->VK->Prop
abbrev TT:=St->Hp->(Bool->Hp->Prop)->Prop
abbrev TA:=St->Hp->(List V->Hp->Prop)->Prop
structure Ends where
 nx:St->Hp->Prop
 rt:VK
 bk:St->Hp->Prop:=λ_ _=>False
 ct:St->Hp->Prop:=λ_ _=>False
abbrev TS:=Ends->St->Hp->Prop
def EP(X:Cx)(pins:List (Si×Obj))(σ:St)(Q:VK)(u:Se)(s':Sw):Prop:=∃v H',Inv X pins σ H' s'/\RelV v u/\Q v H'
def TP(X:Cx)(pins:List (Si×Obj))(σ:St)(Q:Bool->Hp->Prop)(b:Bool)(s':Sw):Prop:=∃H',Inv X pins σ H' s'/\Q b H'
def AP(X:Cx)(pins:List (Si×Obj))(σ:St)(Q:List V->Hp->Prop)(us:List Se)(s':Sw):Prop:=∃vs H',Inv X pins σ H' s'/\Vals vs us/\Q vs H'
def SP(X:Cx)(pins:List (Si×Obj))(D:Ends)(f:Flow)(s':Sw):Prop:=
 match f with
 |.next=>∃σ' H',Inv X pins σ' H' s'/\D.nx σ' H'
 |.brk=>∃σ' H',Inv X pins σ' H' s'/\D.bk σ' H'
 |.cont=>∃σ' H',Inv X pins σ' H' s'/\D.ct σ' H'
 |.ret u=>∃v σ' H',Inv X pins σ' H' s'/\RelV v u/\D.rt v H'
def PE(X:Cx)(e:Sz)(t:TE):Prop:=
 ∀(pins:List (Si×Obj))(s:Sw)(σ:St)(H:Hp)(Q:VK),Inv X pins σ H s->t σ H Q->Sy (model X.prog X.w) X.A (eval e X.env) (EP X pins σ Q) X.xe s
def PT(X:Cx)(e:Sz)(t:TT):Prop:=
 ∀(pins:List (Si×Obj))(s:Sw)(σ:St)(H:Hp)(Q:Bool->Hp->Prop),Inv X pins σ H s->t σ H Q->Sy (model X.prog X.w) X.A (isTrue e X.env (eval e X.env)) (TP X pins σ Q) X.xe s
def PW(X:Cx)(e:Sz)(t:TT):Prop:=
 ∀(whole:Sem Se)(pins:List (Si×Obj))(s:Sw)(σ:St)(H:Hp)(Q:Bool->Hp->Prop),Inv X pins σ H s->t σ H Q->Sy (model X.prog X.w) X.A (isTrue e X.env whole) (TP X pins σ Q) X.xe s
def PW.pt{X:Cx}{e:Sz}{t:TT}(h:PW X e t):PT X e t:=h _
def PA(X:Cx)(es:List Sz)(t:TA):Prop:=
 ∀(pos:Pos)(pins:List (Si×Obj))(s:Sw)(σ:St)(H:Hp)(Q:List V->Hp->Prop),Inv X pins σ H s->t σ H Q->Sy (model X.prog X.w) X.A (spliced (backTo pos (SA es X.env))) (AP X pins σ Q) X.xe s
def PS(X:Cx)(st:SD)(t:TS):Prop:=
 ∀(pins:List (Si×Obj))(s:Sw)(σ:St)(H:Hp)(D:Ends),Inv X pins σ H s->t D σ H->Sy (model X.prog X.w) X.A (exec st X.env) (SP X pins D) X.xe s
def xS(X:Cx)(st:List SD)(t:TS):Prop:=
 ∀(pins:List (Si×Obj))(s:Sw)(σ:St)(H:Hp)(D:Ends),Inv X pins σ H s->t D σ H->Sy (model X.prog X.w) X.A (execs st X.env) (SP X pins D) X.xe s
def eZ{α:Type}{t:Sem α}{Q Q':α->Sw->Prop}{M:Model}{A:Sv}{E:Se->Sw->Prop}{s:Sw}(h:Sy M A t Q E s)(hQ:∀a s,Q a s->Q' a s):Sy M A t Q' E s:=SE h hQ λ_ _ x=>x
section
variable{X:Cx}
def uW(i:Nat):TE:=λσ H Q=>∃v,σ[i]?=some (some v)/\Q v H
def tC(v:V):TE:=λ_ H Q=>Q v H
def Jj{i:Nat}{x:Str}{pos:Pos}(hN:X.N[i]?=some x)(hv:Ig X.env.scope x)(hd:(x==("__debug__":Str))=false:=by decide)(hcd:(x==("__classdict__":Str))=false:=by decide):PE X (.Name x pos) (uW i):=by
 intro pins s σ H Q I h;obtain⟨v,e,h⟩:=h;obtain⟨m,hn,hl⟩:=I.loc;obtain⟨u,r,l⟩:=hl i x v hN e hv;have fin:EP X pins σ Q u s:=⟨v,H,I,r,h⟩
 rcases l with⟨hk,hm⟩|⟨hk,c,hc,hcell⟩
 ·exact SF (wpAny_loadName_local I.ok.kind hk hn hm fin) hd
 ·rcases hk with hk|hk
  ·exact SF (wpAny_loadName_cell I.ok.kind hk hc hcell fin) hd
  ·exact SF (wpAny_loadName_free I.ok.kind hk hc hcell fin hcd) hd
def Jn{i j pos}:PE X (.Constant (.int i) j pos) (tC (.int i)):=λ_ _ _ H _ I h=>wpAny_Constant_int ⟨.int i,H,I.tok _,⟨_,rfl⟩,h⟩
def J7{b j pos}:PE X (.Constant (.bool b) j pos) (tC (.bl b)):=λ_ _ _ H _ I h=>Constant_bool ⟨.bl b,H,I,rfl,h⟩
def Jl{j pos}:PE X (.Constant .none j pos) (tC .non):=λ_ _ _ H _ I h=>Constant_none ⟨.non,H,I,rfl,h⟩
def IJ{x j pos}:PE X (.Constant (.str x) j pos) (tC (.str x)):=λ_ _ _ H _ I h=>Calls.Constant_str ⟨.str x,H,I.tok _,⟨_,rfl⟩,h⟩
def Gl(X:Cx)(x:Str):Prop:=X.env.kindOf x=some .globalImplicit
def wK{E:Se->Sw->Prop}{pins:List (Si×Obj)}{s:Sw}{σ:St}{H:Hp}{x:Str}{u:Se}{pos:Pos}{Q:Se->Sw->Prop}(I:Inv X pins σ H s)(hg:Gl X x)(hm:X.mg x=some u)(h:Q u s)
  (hd:(x==("__debug__":Str))=false:=by decide):Sy (model X.prog X.w) X.A (eval (.Name x pos) X.env) Q E s:=
 Calls.Name_function_global I.ok.kind hg (Calls.loadGlobal_global (by rw[I.ok.glob];exact I.mod.glob.keeps I.bk) hm h) hd
def nn{E:Se->Sw->Prop}{pins:List (Si×Obj)}{s:Sw}{σ:St}{H:Hp}{x:Str}{u:Se}{pos:Pos}{Q:Se->Sw->Prop}(I:Inv X pins σ H s)(hg:Gl X x)(hm:X.mg x=none)(hv:Su x=some u)(h:Q u s)
  (hn:x≠"__name__":=by decide) (hd:(x==("__debug__":Str))=false:=by decide):Sy (model X.prog X.w) X.A (eval (.Name x pos) X.env) Q E s:=by
 obtain⟨mb,h1,h2⟩:=I.mod.blt;exact Calls.Name_function_global I.ok.kind hg (Calls.loadGlobal_builtin (by rw[I.ok.glob];exact I.mod.glob.keeps I.bk) hm (by rw[I.ok.blt];exact h1.keeps I.bk) ((h2 x hn).trans hv) h) hd
def GK{x:Str}{v:V}{u:Se}{pos:Pos}(hg:Gl X x)(hm:X.mg x=none)(hv:Su x=some u)(r:RelV v u)(hn:x≠"__name__":=by decide)(hd:(x==("__debug__":Str))=false:=by decide):PE X (.Name x pos) (tC v):=
 λ_ _ _ H _ I h=>nn I hg hm hv ⟨v,H,I,r,h⟩ hn hd
variable{a b:Sz}{ta tb:TE}{pos:Pos}
def tB(t:TE):TT:=λσ H Q=>t σ H λx H1=>∃c,x=.bl c/\Q c H1
variable{tA tB':TT}{rest:List Sz}
def Ow(t u:TT):TT:=λσ H Q=>t σ H λc H1=>if c=true then Q true H1 else u σ H1 Q
def NE(t:TT):TT:=λσ H Q=>t σ H λc H1=>Q (!c) H1
def IU(ha:PT X a tA):PW X (.BoolOp .Or [a] pos) tA:=by
 intro wh pins s σ H Q I h;refine isTrue_or (eZ (ha pins s σ H Q I h) λc s1 e=>?_);cases c with
 |false=>exact isTrue_or_nil e
 |true=>exact e
def KD(ha:PT X a tA)(hb:PW X (.BoolOp .Or (b::rest) pos) tB'):PW X (.BoolOp .Or (a::b::rest) pos) (Ow tA tB'):=by
 intro wh pins s σ H Q I h;refine isTrue_or (eZ (ha pins s σ H _ I h) λc s1 ⟨H1,I1,q1⟩=>?_);cases c with
 |true=>exact⟨H1,I1,q1⟩
 |false=>exact hb wh pins s1 σ H1 Q I1 q1
def Ir(ha:PT X a tA):PT X (.UnaryOp .Not a pos) (NE tA):=by
 intro pins s σ H Q I h;exact isTrue_not (ha pins s σ H (λc H1=>Q (!c) H1) I h)
def Km(ta tb:TE):TE:=λσ H Q=>ta σ H λx H1=>∃c,x=.bl c/\if c=true then tb σ H1 Q else Q (.bl false) H1
def Mj(ta tb:TE):TE:=λσ H Q=>ta σ H λx H1=>∃c,x=.bl c/\if c=true then Q (.bl true) H1 else tb σ H1 Q
def JK(ta:TE):TE:=λσ H Q=>ta σ H λx H1=>∃c,x=.bl c/\Q (.bl (!c)) H1
def Jd{op}{t:TE}(h:PE X a t):PE X (.BoolOp op [a] pos) t:=λpins s σ H Q I hw=>BoolOp_one (h pins s σ H Q I hw)
def IH(ha:PE X a ta)(hb:PE X (.BoolOp .And (b::rest) pos) tb):PE X (.BoolOp .And (a::b::rest) pos) (Km ta tb):=by
 intro pins s σ H Q I h;refine BoolOp_and (eZ (ha pins s σ H _ I h) λv s1 ⟨x,H1,I1,r1,q1⟩=>?_);obtain⟨c,rfl,q1⟩:=q1;cases r1;refine SG ?_;cases c with
 |true=>exact hb pins s1 σ H1 Q I1 q1
 |false=>exact⟨.bl false,H1,I1,rfl,q1⟩
def JQ(ha:PE X a ta)(hb:PE X (.BoolOp .Or (b::rest) pos) tb):PE X (.BoolOp .Or (a::b::rest) pos) (Mj ta tb):=by
 intro pins s σ H Q I h;refine BoolOp_or (eZ (ha pins s σ H _ I h) λv s1 ⟨x,H1,I1,r1,q1⟩=>?_);obtain⟨c,rfl,q1⟩:=q1;cases r1;refine SG ?_;cases c with
 |false=>exact hb pins s1 σ H1 Q I1 q1
 |true=>exact⟨.bl true,H1,I1,rfl,q1⟩
def II(ha:PE X a ta):PE X (.UnaryOp .Not a pos) (JK ta):=by
 intro pins s σ H Q I h;refine UnaryOp_ (eZ (ha pins s σ H _ I h) λv s1 ⟨x,H1,I1,r1,q1⟩=>?_);obtain⟨c,rfl,q1⟩:=q1;cases r1;exact not_of (SG ⟨.bl (!c),H1,I1,rfl,q1⟩)
def Od(t:TT)(ta tb:TE):TE:=λσ H Q=>t σ H λc H1=>if c=true then ta σ H1 Q else tb σ H1 Q
def DU{c:Sz}(hc:PT X c tA)(ha:PE X a ta)(hb:PE X b tb):PE X (.IfExp c a b pos) (Od tA ta tb):=by
 intro pins s σ H Q I h;refine wpAny_IfExp (eZ (hc pins s σ H _ I h) λd s1 ⟨H1,I1,q1⟩=>?_);cases d with
 |true=>exact ha pins s1 σ H1 Q I1 q1
 |false=>exact hb pins s1 σ H1 Q I1 q1
end
def o9(K:Q7)(H:Hp)(a:Si)(xs:List V):Prop:=
 Rd H a (.lst xs) \/
  ∃(o:Obj)(its:Array Se)(n:Nat),K.lookup a=some o/\o.cls=.type "list"/\o.dict=none/\o.data=.seq its n/\its.size<=Sn/\Vals xs its.toList
def qv(K:Q7)(H:Hp)(a:Si)(xs:List V):Prop:=
 Rd H a (.tup xs) \/
  ∃(o:Obj)(its:Array Se)(n:Nat),K.lookup a=some o/\o.cls=.type "tuple"/\o.data=.seq its n/\its.size<=Sn/\Vals xs its.toList
def NR:Se->Option V
 |.none=>some .non
 |.bool b=>some (.bl b)
 |.int i _=>some (.int i)
 |.str x _=>some (.str x)
 |.bytes b _=>some (.byt b)
 |.float b _=>some (.flt b)
 |.ref a=>some (.ref a)
 |.type n=>some (.ty n)
 |_=>none
def RelV.abs{x:V}{u:Se}(r:RelV x u):NR u=some x:=by
 cases x with
 |non=>cases r;rfl
 |bl _=>cases r;rfl
 |int _=>obtain⟨t,rfl⟩:=r;rfl
 |str _=>obtain⟨t,rfl⟩:=r;rfl
 |byt _=>obtain⟨t,rfl⟩:=r;rfl
 |flt _=>obtain⟨t,rfl⟩:=r;rfl
 |ref _=>cases r;rfl
 |ty _=>cases r;rfl
def RelV.inj{x y:V}{u:Se}(r:RelV x u)(q:RelV y u):x=y:=Option.some.inj (r.abs.symm.trans q.abs)
def Vals.inj:∀{xs ys:List V}{us:List Se},Vals xs us->Vals ys us->xs=ys
 |_,_,_,.nil,.nil=>rfl
 |_,_,_,.cons r t,.cons r' t'=>by rw[r.inj r',Vals.inj t t']
section
variable{X:Cx}{pins:List (Si×Obj)}{σ:St}{H:Hp}{s:Sw}{a:Si}{xs ys:List V}
def o9.of{K:Q7}(h:H a=some (.lst xs)):o9 K H a xs:=.inl (.inl h)
def qv.of{K:Q7}(h:H a=some (.tup xs)):qv K H a xs:=.inl (.inl h)
def Inv.list(I:Inv X pins σ H s)(h:o9 X.K H a xs):∃its:List Se,Vals xs its/\PlainL s.heap a its.toArray/\xs.length<=Sn:=by
 rcases h with h|⟨o,its,n,hk,hc,hd,hs,hz,r⟩
 ·obtain⟨z,its,n,r,e⟩:=h.ok I.hok;exact⟨its,r,⟨_,n,e,rfl,rfl,rfl⟩,z⟩
 ·refine⟨its.toList,r,⟨o,n,I.kIn a o hk,hc,hd,by simpa using hs⟩,?_⟩;have e:=r.length;simp only[Array.length_toList]at e;omega
def Inv.tuple(I:Inv X pins σ H s)(h:qv X.K H a xs):∃its:List Se,Vals xs its/\Sq s.heap a its.toArray/\xs.length<=Sn:=by
 rcases h with h|⟨o,its,n,hk,hc,hs,hz,r⟩
 ·obtain⟨z,its,r,p⟩:=h.ok I.hok;exact⟨its,r,p,z⟩
 ·refine⟨its.toList,r,⟨o,I.kIn a o hk,hc,n,by simpa using hs⟩,?_⟩;have e:=r.length;simp only[Array.length_toList]at e;omega
def Inv.list_inj(I:Inv X pins σ H s)(h:o9 X.K H a xs)(h':o9 X.K H a ys):xs=ys:=by
 obtain⟨its,r,⟨o,n,e,_,_,d⟩,_⟩:=I.list h;obtain⟨its',r',⟨o',n',e',_,_,d'⟩,_⟩:=I.list h';rw[e]at e';cases e';rw[d]at d';injection d' with d1 _
 have:its=its':=by simpa using congrArg Array.toList d1
 subst this;exact r.inj r'
def Inv.tuple_inj(I:Inv X pins σ H s)(h:qv X.K H a xs)(h':qv X.K H a ys):xs=ys:=by
 obtain⟨its,r,⟨o,e,_,n,d⟩,_⟩:=I.tuple h;obtain⟨its',r',⟨o',e',_,n',d'⟩,_⟩:=I.tuple h';rw[e]at e';cases e';rw[d]at d';injection d' with d1 _
 have:its=its':=by simpa using congrArg Array.toList d1
 subst this;exact r.inj r'
end
abbrev Cx.wish(X:Cx)(E:Se->Sw->Prop):Cx:={X with xe:=E}
abbrev Cx.nox(X:Cx):Cx:=X.wish λ_ _=>False
def Cx.Ok.wish{X:Cx}(ok:X.Ok)(E:Se->Sw->Prop):(X.wish E).Ok:=
 ⟨ok.mod,ok.kind,ok.glob,ok.blt,ok.above,ok.inj,ok.has,ok.cab,ok.hd,ok.frames,ok.stk,ok.exf,ok.bs,ok.bsz,ok.noex,ok.exfs,ok.funs,ok.frf⟩
def Cx.Ok.unwish{X:Cx}{E:Se->Sw->Prop}(ok:(X.wish E).Ok):X.Ok:=
 ⟨ok.mod,ok.kind,ok.glob,ok.blt,ok.above,ok.inj,ok.has,ok.cab,ok.hd,ok.frames,ok.stk,ok.exf,ok.bs,ok.bsz,ok.noex,ok.exfs,ok.funs,ok.frf⟩
section
variable{X:Cx}{pins:List (Si×Obj)}{σ:St}{H:Hp}{s:Sw}{E:Se->Sw->Prop}
def Inv.wish(I:Inv X pins σ H s)(E:Se->Sw->Prop):Inv (X.wish E) pins σ H s:=⟨I.ok.wish E,I.os,I.bare,I.base,I.loc,I.cell,I.free,I.freeC,I.pin,I.hok,I.len⟩
def Inv.unwish(I:Inv (X.wish E) pins σ H s):Inv X pins σ H s:=⟨I.ok.unwish,I.os,I.bare,I.base,I.loc,I.cell,I.free,I.freeC,I.pin,I.hok,I.len⟩
def SP.unwish{D:Ends}{f:Flow}{s':Sw}(h:SP (X.wish E) pins D f s'):SP X pins D f s':=by
 cases f with
 |next=>obtain⟨σ',H',I,q⟩:=h;exact⟨σ',H',I.unwish,q⟩
 |brk=>obtain⟨σ',H',I,q⟩:=h;exact⟨σ',H',I.unwish,q⟩
 |cont=>obtain⟨σ',H',I,q⟩:=h;exact⟨σ',H',I.unwish,q⟩
 |ret u=>obtain⟨v,σ',H',I,r,q⟩:=h;exact⟨v,σ',H',I.unwish,r,q⟩
def xS.nox{st:List SD}{t:TS}(h:xS X.nox st t):xS X st t:=λpins s σ H D I hw=>
 SE (h pins s σ H D (I.wish _) hw) (λ_ _ q=>q.unwish) λ_ _ z=>False.elim z
end
section
variable{X:Cx}{st:SD}{rest:List SD}{t u:TS}{e:Sz}{te:TE}{pos:Pos}
def KS:TS:=λD σ H=>D.nx σ H
def Nw(t u:TS):TS:=λD σ H=>t {D with nx:=u D} σ H
def Gg:xS X [] KS:=λ_ _ σ H _ I h=>SH ⟨σ,H,I,h⟩
def Dq(h1:PS X st t)(h2:xS X rest u):xS X (st::rest) (Nw t u):=by
 intro pins s σ H D I h;refine wpAny_execs_cons (eZ (h1 pins s σ H {D with nx:=u D} I h) λf s1 q=>?_);cases f with
 |next=>
  obtain⟨σ',H',I',q⟩:=q;exact h2 pins s1 σ' H' D I' q
 |ret v=>exact q
 |brk=>exact q
 |cont=>exact q
def AG(h1:PS X st t):xS X [st] t:=by
 intro pins s σ H D I h;refine wpAny_execs_cons (eZ (h1 pins s σ H D I h) λf s1 q=>?_);cases f with
 |next=>exact SH q
 |ret v=>exact q
 |brk=>exact q
 |cont=>exact q
def Inv.quiet{pins:List (Si×Obj)}{σ:St}{H:Hp}{s:Sw}(I:Inv X pins σ H s):interactive X.env=false:=by simp[interactive,I.ok.kind]
def JW(te:TE):TS:=λD σ H=>te σ H λ_ H1=>D.nx σ H1
def Bb(he:PE X e te)(hs:swapsWith e none pos.line X.env=pure false:=by rfl):PS X (.Expr e pos) (JW te):=by
 intro pins s σ H D I h;exact wpAny_Expr_any (eZ (he pins s σ H _ I h) λv s1 ⟨x,H1,I1,r1,q1⟩=>⟨σ,H1,I1,q1⟩) I.quiet hs
def M1(te:TE):TS:=λD σ H=>te σ H D.rt
def Jb(he:PE X e te):PS X (.Return (some e) pos) (M1 te):=by
 intro pins s σ H D I h;exact wpAny_Return_some (eZ (he pins s σ H _ I h) λv s1 ⟨x,H1,I1,r1,q1⟩=>⟨x,σ,H1,I1,r1,q1⟩)
def NK(c:TT)(t u:TS):TS:=λD σ H=>c σ H λb H1=>if b=true then t D σ H1 else u D σ H1
def Ky{c:Sz}{a b:List SD}{tc:TT}(hc:PT X c tc)(ha:xS X a t)(hb:xS X b u):PS X (.If c a b pos) (NK tc t u):=by
 intro pins s σ H D I h;refine wpAny_If (eZ (hc pins s σ H _ I h) λd s1 ⟨H1,I1,q1⟩=>?_);cases d with
 |true=>exact ha pins s1 σ H1 D I1 q1
 |false=>exact hb pins s1 σ H1 D I1 q1
end
abbrev TG:=V->St->Hp->(St->Hp->Prop)->Prop
abbrev HG:=List V->St->Hp->(St->Hp->Prop)->Prop
def PG(X:Cx)(target:Sz)(t:TG):Prop:=
 ∀(pins:List (Si×Obj))(s:Sw)(σ:St)(H:Hp)(v:V)(u:Se)(Q:St->Hp->Prop),Inv X pins σ H s->RelV v u->t v σ H Q->
  Sy (model X.prog X.w) X.A (assign target X.env u) (λ_ s'=>∃σ' H',Inv X pins σ' H' s'/\Q σ' H') X.xe s
def JR(X:Cx)(ts:List Sz)(t:HG):Prop:=
 ∀(pins:List (Si×Obj))(s:Sw)(σ:St)(H:Hp)(vs:List V)(us:List Se)(Q:St->Hp->Prop),Inv X pins σ H s->Vals vs us->t vs σ H Q->
  Sy (model X.prog X.w) X.A (assignInOrder ((assignEach ts X.env).map (·.2)) us) (λ_ s'=>∃σ' H',Inv X pins σ' H' s'/\Q σ' H') X.xe s
section
variable{X:Cx}{pos:Pos}
def v8(i:Nat):TG:=λv σ H Q=>Q (σ.set i (some v)) H
def FH{i:Nat}{x:Str}(hN:X.N.Nodup)(hi:X.N[i]?=some x)(hx:Loc X.env.scope x)(hf:X.fn x=true\/X.env.scope.names.lookup x=some .local:=by first|exact .inl rfl|exact .inr rfl|assumption):PG X (.Name x pos) (v8 i):=by
 intro pins s σ H v u Q I r h;exact wpAny_assign_Name (xU I hN hi hx r (λs' I'=>⟨_,H,I',h⟩) hf)
def ME:HG:=λvs σ H Q=>vs=[]/\Q σ H
def Kk(t:TG)(u:HG):HG:=λvs σ H Q=>∃v r,vs=v::r/\t v σ H λσ' H'=>u r σ' H' Q
def GZ:JR X [] ME:=by
 intro pins s σ H vs us Q I r h;obtain⟨e,h⟩:=h;subst e;cases r;exact assignInOrder_nil ⟨σ,H,I,h⟩
def Du{e:Sz}{es:List Sz}{t:TG}{u:HG}(h1:PG X e t)(h2:JR X es u)
  (hs:(assignEach (e::es) X.env).map (·.2)=assign e X.env::(assignEach es X.env).map (·.2):=by rfl):JR X (e::es) (Kk t u):=by
 intro pins s σ H vs us Q I r h;obtain⟨v,vr,e1,h⟩:=h;subst e1;cases r with
 |cons r rr=>
  rw[hs];refine assignInOrder_cons (eZ (h1 pins s σ H _ _ _ I r h) λ_ s1 ⟨σ1,H1,I1,q1⟩=>?_);exact h2 pins s1 σ1 H1 _ _ Q I1 rr q1
def MR(K:Q7)(n:Nat)(t:HG):TG:=λv σ H Q=>∃a xs,v=.ref a/\qv K H a xs/\xs.length=n/\t xs σ H Q
def Iq{es:List Sz}{k:Nat}{t:HG}{n:Nat}(hc:X.calm=true)(h:JR X es t)
  (hn:(assignEach es X.env).length=n:=by rfl) (hst:(assignEach es X.env).findIdx? (·.1)=none:=by rfl):PG X (.Tuple es k pos) (MR X.K n t):=by
 intro pins s σ H v u Q I r hw;obtain⟨a,xs,e1,hq,hl,hw⟩:=hw;subst e1;cases r;obtain⟨its,rv,ht,hz⟩:=I.tuple hq;refine assign_Tuple_tuple (I.ok.hd hc) ht (by simp[hn,<-hl,rv.length]) hst λh' hx=>?_;have I1:Inv X pins σ H {s with heap:=h'}:=I.kept (t':=s.toks) λb o e=>hx b o (OD (RH e)) e;exact h pins _ σ H xs _ Q I1 (by simpa using rv) hw
def DH(te:TE)(g:TG):TS:=λD σ H=>te σ H λx H1=>g x σ H1 D.nx
def Ia{tg e:Sz}{te:TE}{g:TG}(he:PE X e te)(hg:PG X tg g)(hs:swapsWithSole [tg] e pos.line X.env=pure false:=by rfl)(hw:swappedStores [tg] e X.env=pure none:=by rfl)
  (h1:(assignEach [tg] X.env).map (·.2)=[assign tg X.env]:=by rfl):PS X (.Assign [tg] e pos) (DH te g):=by
 intro pins s σ H D I h;refine wpAny_Assign_stores (eZ (he pins s σ H _ I h) λv s1 ⟨x,H1,I1,r1,q1⟩=>?_) hs hw;rw[h1];exact eZ (hg pins s1 σ H1 x v _ I1 r1 q1) λ_ s2 q=>q
def DM{i:Nat}{x:Str}{e:Sz}{te:TE}{pos':Pos}(hN:X.N.Nodup)(hi:X.N[i]?=some x)(hx:Loc X.env.scope x)(he:PE X e te)(hs:swapsWith e (some (.Name x pos')) pos.line X.env=pure false:=by rfl)(hf:X.fn x=true\/X.env.scope.names.lookup x=some .local:=by first|exact .inl rfl|exact .inr rfl|assumption):
  PS X (.Assign [.Name x pos'] e pos) (DH te (v8 i)):=by
 intro pins s σ H D I h;refine wpAny_Assign_Name (eZ (he pins s σ H _ I h) λv s1 ⟨y,H1,I1,r1,q1⟩=>?_) hs;exact xU I1 hN hi hx r1 (λs2 I2=>⟨_,H1,I2,q1⟩) hf
end
structure It where
 go:Nat->Hp->Prop
 yld:Nat->Hp->V->Hp->Prop
 stop:Nat->Hp->Prop
def vc(X:Cx)(pins:List (Si×Obj))(H:Hp)(b:Si):Prop:=
 H b=none/\b≠X.env.locals/\b∉X.fs/\(b∈X.ex\/X.s₀.heap.objs.size<=b)/\(∀x c,X.env.cells.lookup x=some c->c≠b)/\∀p∈X.pn++pins,p.1≠b
def Inv.fpOk{X:Cx}{pins:List (Si×Obj)}{σ:St}{H H':Hp}{s:Sw}{b:Si}(I:Inv X pins σ H s)(hb:s.heap.objs.size<=b)(hn:H' b=none):vc X pins H' b:=by
 refine⟨hn,OS (OB I.lt hb),I.nofs hb,.inr (OG I.sz hb),λx c e z=>?_,λp hp z=>?_⟩
 ·obtain⟨v,q⟩:=I.cell x c e;exact absurd (OB q.lt (by rw[z];exact hb)) (OC _)
 ·exact absurd (OB (RH (I.pin p hp).1) (by rw[z];exact hb)) (OC _)
structure Turn(P:Sg)(w:Sf)(K:Q7)(tg:Sz)(J:It)(fp:List Si)(it:Si)(tn:Nat->Sl->Prop):Prop where
 mem:it∈fp
 obj:∀i h,tn i h->∀b∈fp,∃o,h.get? b=some o/\∀v,o.data≠.cell v
 keep:∀i h h',tn i h->(∀b∈fp,∀o,h.get? b=some o->h'.get? b=some o)->tn i h'
 item:∀(X:Cx),X.prog=P->X.w=w->X.K=K->X.calm=true->∀(i:Nat)(pins:List (Si×Obj))(s:Sw)(σ:St)(H:Hp)(E:Se->Sw->Prop),Inv X pins σ H s->(∀b∈fp,vc X pins H b)->tn i s.heap->J.go i H->
  Sy (model P w) X.A (pyNext (.ref it)) (λr s1=>∃u,r=some u/\
   Sy (model P w) X.A (letOwnedTupleGo tg (.ref it) u) (λ_ s2=>∃x H',Inv X pins σ H' s2/\RelV x u/\J.yld i H x H'/\tn (i+1) s2.heap/\∀b∈fp,H' b=none) E s1) E s
 done:∀(X:Cx),X.prog=P->X.w=w->X.K=K->X.calm=true->∀(i:Nat)(pins:List (Si×Obj))(s:Sw)(σ:St)(H:Hp)(E:Se->Sw->Prop),Inv X pins σ H s->(∀b∈fp,vc X pins H b)->tn i s.heap->J.stop i H->
  Sy (model P w) X.A (pyNext (.ref it)) (λr s1=>r=none/\Inv X pins σ H s1) E s
 self:∀(A:Sv)(i:Nat)(s:Sw)(Q:Se->Sw->Prop)(E:Se->Sw->Prop),tn i s.heap->Q (.ref it) s->Sy (model P w) A (pyIter (.ref it)) Q E s
abbrev TI:=St->Hp->(It->Hp->Prop)->Prop
def PIE(X:Cx)(pins:List (Si×Obj))(σ:St)(tg:Sz)(R:It->Hp->Prop)(itv:Se)(s2:Sw):Prop:=
 ∃(it:Si)(fp:List Si)(tn:Nat->Sl->Prop)(J:It)(H':Hp),itv=.ref it/\Inv X pins σ H' s2/\Turn X.prog X.w X.K tg J fp it tn/\tn 0 s2.heap/\(∀b∈fp,vc X pins H' b)/\R J H'
def PI(X:Cx)(tg iter:Sz)(wi:TI):Prop:=
 ∀(pins:List (Si×Obj))(s:Sw)(σ:St)(H:Hp)(R:It->Hp->Prop),Inv X pins σ H s->wi σ H R->
  Sy (model X.prog X.w) X.A (eval iter X.env) (λv s1=>Sy (model X.prog X.w) X.A (pyIter v) (PIE X pins σ tg R) X.xe s1) X.xe s
def EY{M:Model}{A:Sv}{E:Se->Sw->Prop}{s:Sw}{tg:Sz}{it:Si}{u:Se}{o:Obj}{n:String}{vs:Array Se}{Q:Unit->Sw->Prop}(ho:s.heap.get? it=some o)(hc:o.cls=.type n)(hd:o.data=.fields vs)
    (hn:["enumerate","zip","dict_itemiterator","dict_reverseitemiterator","odict_iterator","itertools.zip_longest","itertools.pairwise"].contains n=false) (hQ:Q () s):Sy M A (letOwnedTupleGo tg (.ref it) u) Q E s:=by
  unfold letOwnedTupleGo;cases tg<;>first
    |exact SJ hQ
    | (cases u <;> first
        |exact SJ hQ
        | (refine SK (wpAny_load ho ?_)
           rw[hc,hd];show Sy M A (if(["enumerate","zip","dict_itemiterator","dict_reverseitemiterator","odict_iterator","itertools.zip_longest","itertools.pairwise"].contains n&&vs[0]?==some (rawInt _))=true then _ else _) Q E s;rw[if_neg (by intro h;rw[hn,Bool.false_and]at h;cases h)];exact SJ hQ))
def Mx(K:Q7)(a:Si):It:=
 ⟨λi H=>∃xs x,o9 K H a xs/\xs[i]?=some x,λi H x H'=>H'=H/\∀xs,o9 K H a xs->xs[i]?=some x,λi H=>∃xs,o9 K H a xs/\xs.length<=i⟩
def MG(K:Q7)(a:Si):It:=
 ⟨λi H=>∃xs x,qv K H a xs/\xs[i]?=some x,λi H x H'=>H'=H/\∀xs,qv K H a xs->xs[i]?=some x,λi H=>∃xs,qv K H a xs/\xs.length<=i⟩
def Kz(lo:Int)(n:Nat):It:=⟨λi _=>i<n,λi H x H'=>H'=H/\x=.int (lo+i),λi _=>n<=i⟩
def CG{P:Sg}{w:Sf}{K:Q7}{tg:Sz}(a it:Si):Turn P w K tg (Mx K a) [it] it (λi h=>h.IsListIter it a i)where
 mem:=by simp
 obj:=λi h st b hb=>by
  have e:b=it:=by simpa using hb
  subst e;obtain⟨o,e,c,d⟩:=st;exact⟨o,e,λv z=>by rw[d]at z;cases z⟩
 keep:=λi h h' st k=>st.at λo e=>k it (by simp) o e
 item:=by
  intro X hP hw hK hc i pins s σ H E I hf st hg;subst hP hw hK;obtain⟨xs,x,hq,hx⟩:=hg;obtain⟨its,rv,p,hz⟩:=I.list hq;obtain⟨u,hu,ru⟩:=rv.get hx;obtain⟨f0,f1,f2,f3,f4,f5⟩:=hf it (by simp);refine wpAny_pyNext_list_item st p.isList (x:=u) (by simpa using hu) λh' st' sb=>?_;have I1:Inv X pins σ H {s with heap:=h'}:=I.turned (t':=s.toks) (λb o hb e=>(sb.2 b hb).trans e) f0 f1 f3 f4 f5;obtain⟨o,e,c,d⟩:=id st';exact⟨u,rfl,EY (s:={s with heap:=h'}) e c d (by decide) ⟨x,H,I1,ru,⟨rfl,λys hy=>by rw[I.list_inj hy hq];exact hx⟩,st',λb hb=>(hf b hb).1⟩⟩
 done:=by
  intro X hP hw hK hc i pins s σ H E I hf st hg;subst hP hw hK;obtain⟨xs,hq,hx⟩:=hg;obtain⟨its,rv,p,hz⟩:=I.list hq;obtain⟨f0,f1,f2,f3,f4,f5⟩:=hf it (by simp);have hl:=rv.length;exact wpAny_pyNext_list_end (I.ok.hd hc) st p.isList (by simp;omega) λh' eb=>⟨rfl,I.turned (t':=s.toks) (λb o hb e=>eb b o hb e) f0 f1 f3 f4 f5⟩
 self:=λ_ _ _ _ _ st h=>wpAny_pyIter_listiter st h
def zH{P:Sg}{w:Sf}{K:Q7}{tg:Sz}(a it:Si):Turn P w K tg (MG K a) [it] it (λi h=>h.IsTupleIter it a i)where
 mem:=by simp
 obj:=λi h st b hb=>by
  have e:b=it:=by simpa using hb
  subst e;obtain⟨o,e,c,d⟩:=st;exact⟨o,e,λv z=>by rw[d]at z;cases z⟩
 keep:=λi h h' st k=>st.at λo e=>k it (by simp) o e
 item:=by
  intro X hP hw hK hc i pins s σ H E I hf st hg;subst hP hw hK;obtain⟨xs,x,hq,hx⟩:=hg;obtain⟨its,rv,p,hz⟩:=I.tuple hq;obtain⟨u,hu,ru⟩:=rv.get hx;obtain⟨f0,f1,f2,f3,f4,f5⟩:=hf it (by simp);refine wpAny_pyNext_tuple_item st (show s.heap.IsTuple a its.toArray from p) (x:=u) (by simpa using hu) λh' st' sb=>?_;have I1:Inv X pins σ H {s with heap:=h'}:=I.turned (t':=s.toks) (λb o hb e=>(sb.2 b hb).trans e) f0 f1 f3 f4 f5;obtain⟨o,e,c,d⟩:=id st';exact⟨u,rfl,EY (s:={s with heap:=h'}) e c d (by decide) ⟨x,H,I1,ru,⟨rfl,λys hy=>by rw[I.tuple_inj hy hq];exact hx⟩,st',λb hb=>(hf b hb).1⟩⟩
 done:=by
  intro X hP hw hK hc i pins s σ H E I hf st hg;subst hP hw hK;obtain⟨xs,hq,hx⟩:=hg;obtain⟨its,rv,p,hz⟩:=I.tuple hq;obtain⟨f0,f1,f2,f3,f4,f5⟩:=hf it (by simp);have hl:=rv.length;exact wpAny_pyNext_tuple_end (I.ok.hd hc) st (show s.heap.IsTuple a its.toArray from p) (by simp;omega) λh' eb=>⟨rfl,I.turned (t':=s.toks) (λb o hb e=>eb b o hb e) f0 f1 f3 f4 f5⟩
 self:=λ_ _ _ _ _ st h=>wpAny_pyIter_tupleiter st h
def zT{P:Sg}{w:Sf}{K:Q7}{tg:Sz}(it:Si)(lo:Int)(n:Nat):Turn P w K tg (Kz lo n) [it] it (λi h=>IsRangeIter h it (lo+(i:Nat)*1) ((n:Int)-(i:Nat)) 1)where
 mem:=by simp
 obj:=λi h st b hb=>by
  have e:b=it:=by simpa using hb
  subst e;exact⟨_,st,λv z=>by
   have z':Data.fields _=Data.cell v:=z;cases z'⟩
 keep:=λi h h' st k=>k it (by simp) _ st
 item:=by
  intro X hP hw hK hc i pins s σ H E I hf st hg;subst hP hw hK;obtain⟨f0,f1,f2,f3,f4,f5⟩:=hf it (by simp);have W:=Walks.range (prog:=X.prog) (w:=X.w) (I.ok.hd hc) it lo 1 n;refine W.item i s _ _ hg st λv h' tk hv st' kk=>?_;obtain⟨t,rfl⟩:=hv;have I1:Inv X pins σ H {s with heap:=h',toks:=tk}:=I.turned (λb o hb e=>kk b o (by simpa using hb) e) f0 f1 f3 f4 f5;refine⟨_,rfl,EY (s:={s with heap:=h',toks:=tk}) (n:="range_iterator") st' rfl rfl (by decide) ⟨.int (lo+i),H,I1,⟨t,?_⟩,⟨rfl,rfl⟩,st',λb hb=>(hf b hb).1⟩⟩;rw[Int.mul_one]
 done:=by
  intro X hP hw hK hc i pins s σ H E I hf st hg;subst hP hw hK;obtain⟨f0,f1,f2,f3,f4,f5⟩:=hf it (by simp);exact wpAny_pyNext_range_end (I.ok.hd hc) st (by have:n<=i:=hg;omega) λh' eb=>⟨rfl,I.turned (t':=s.toks) (λb o hb e=>eb b o hb e) f0 f1 f3 f4 f5⟩
 self:=λ_ _ _ _ _ st h=>wpAny_pyIter_rangeiter st h
section
variable{X:Cx}{tg:Sz}
def KW(K:Q7)(tl:TE):TI:=λσ H R=>tl σ H λx H1=>∃a,x=.ref a/\(∃xs,o9 K H1 a xs)/\R (Mx K a) H1
def MV(K:Q7)(tl:TE):TI:=λσ H R=>tl σ H λx H1=>∃a,x=.ref a/\(∃xs,qv K H1 a xs)/\R (MG K a) H1
def Bp{l:Sz}{tl:TE}(hl:PE X l tl):PI X tg l (KW X.K tl):=by
 intro pins s σ H R I h;refine eZ (hl pins s σ H _ I h) λv s1 ⟨x,H1,I1,r1,q1⟩=>?_;obtain⟨a,e,⟨xs,hq⟩,q⟩:=q1;subst e;cases r1;obtain⟨its,rv,p,hz⟩:=I1.list hq;refine SL p.isList ?_;refine⟨s1.heap.objs.size,[s1.heap.objs.size],_,_,H1,rfl,I1.kept (t':=s1.toks) λb o e=>RL _ e,CG a _,⟨_,RM _ rfl,rfl,rfl⟩,λb hb=>?_,q⟩;have e:b=s1.heap.objs.size:=by simpa using hb
 subst e;exact I1.fpOk (OT _) (I1.hok.fresh (OT _))
def IY{l:Sz}{tl:TE}(hl:PE X l tl):PI X tg l (MV X.K tl):=by
 intro pins s σ H R I h;refine eZ (hl pins s σ H _ I h) λv s1 ⟨x,H1,I1,r1,q1⟩=>?_;obtain⟨a,e,⟨xs,hq⟩,q⟩:=q1;subst e;cases r1;obtain⟨its,rv,p,hz⟩:=I1.tuple hq;refine wpAny_pyIter_tuple (show s1.heap.IsTuple a its.toArray from p) ?_;refine⟨s1.heap.objs.size,[s1.heap.objs.size],_,_,H1,rfl,I1.kept (t':=s1.toks) λb o e=>RL _ e,zH a _,⟨_,RM _ rfl,rfl,rfl⟩,λb hb=>?_,q⟩;have e:b=s1.heap.objs.size:=by simpa using hb
 subst e;exact I1.fpOk (OT _) (I1.hok.fresh (OT _))
def zg{pins:List (Si×Obj)}{σ:St}{H:Hp}{s:Sw}{R:It->Hp->Prop}{E:Se->Sw->Prop}{lo hi:Int}{t u v:Tok}{tk:Nat}(I:Inv X pins σ H s)(h1:-(2^62)<=lo)(h2:lo<2^62)(h3:-(2^62)<=hi)(h4:hi<2^62)
  (q:R (Kz lo (hi-lo).toNat) H):Sy (model X.prog X.w) X.A (pyIter (.ref s.heap.objs.size)) (PIE X pins σ tg R) E {s with heap:=s.heap.push {cls:=.type "range",data:=.fields #[.int lo t,.int hi u,.int 1 v]},toks:=tk}:=by
 refine wpAny_pyIter_range (IsRange.new ..) (small_one h1 h2 h3 h4) ?_;have I1:Inv X pins σ H {s with heap:=s.heap.push {cls:=.type "range",data:=.fields #[.int lo t,.int hi u,.int 1 v]},toks:=tk}:=I.kept λb o e=>RL _ e;refine⟨(s.heap.push {cls:=.type "range",data:=.fields #[.int lo t,.int hi u,.int 1 v]}).objs.size,[(s.heap.push {cls:=.type "range",data:=.fields #[.int lo t,.int hi u,.int 1 v]}).objs.size],_,_,H,rfl,
  I1.kept (t':=tk) λb o e=>RL _ e,zT _ lo (hi-lo).toNat,?_,λb hb=>?_,q⟩
 ·have e1:lo+((0:Nat):Int)*1=lo:=by simp
  have e2:(((hi-lo).toNat:Nat):Int)-((0:Nat):Int)=Builtin.Range.rangeSize lo hi 1:=by rw[rangeSize_one];split<;>omega
  show IsRangeIter _ _ (lo+((0:Nat):Int)*1) ((((hi-lo).toNat:Nat):Int)-((0:Nat):Int)) 1;rw[e1,e2];exact RM _ rfl
 ·have e:b=(s.heap.push {cls:=.type "range",data:=.fields #[.int lo t,.int hi u,.int 1 v]}).objs.size:=by simpa using hb
  subst e;exact I1.fpOk (OT _) (I1.hok.fresh (OT _))
def KN(ta:TA):TI:=λσ H R=>ta σ H λvs H1=>∃j:Int,vs=[.int j]/\-(2^62)<=j/\j<2^62/\R (Kz 0 j.toNat) H1
def KI(ta:TA):TI:=λσ H R=>ta σ H λvs H1=>∃i j:Int,vs=[.int i,.int j]/\(-(2^62)<=i/\i<2^62/\-(2^62)<=j/\j<2^62)/\R (Kz i (j-i).toNat) H1
def BL{a:Sz}{ta:TA}{p pos:Pos}(hg:Gl X "range")(hm:X.mg "range"=none)(ha:PA X [a] ta)(hs:SA [a] X.env=[(false,eval a X.env)]:=by rfl):PI X tg (.Call (.Name "range" p) [a] [] pos) (KN ta):=by
 intro pins s σ H R I h;refine Call_ (nn I hg hm boot_range (RU (eZ (ha pos pins s σ H _ I h) λus s1 ⟨vs,H1,I1,r1,q1⟩=>?_) hs rfl));obtain⟨j,e,q1,q2,q⟩:=q1;subst e;cases r1 with
 |cons r rr=>
  cases rr;obtain⟨t,rfl⟩:=r;exact call_range_1 (zg I1 ‹0› ‹0› q1 q2 (by simpa using q))
def B7{a b:Sz}{ta:TA}{p pos:Pos}(hg:Gl X "range")(hm:X.mg "range"=none)(ha:PA X [a,b] ta)(hs:SA [a,b] X.env=[(false,eval a X.env),(false,eval b X.env)]:=by rfl)(hs2:SA [b] X.env=[(false,eval b X.env)]:=by rfl):
  PI X tg (.Call (.Name "range" p) [a,b] [] pos) (KI ta):=by
 intro pins s σ H R I h;refine Call_ (nn I hg hm boot_range (RU (eZ (ha pos pins s σ H _ I h) λus s1 ⟨vs,H1,I1,r1,q1⟩=>?_) (by rw[hs,hs2]) (by rw[hs2];rfl)));obtain⟨i,j,e,⟨q1,q2,q3,q4⟩,q⟩:=q1;subst e;cases r1 with
 |cons r rr=>
  cases rr with
  |cons r' rr=>
   cases rr;obtain⟨t,rfl⟩:=r;obtain⟨t',rfl⟩:=r';exact call_range_2 (zg I1 q1 q2 q3 q4 q)
def M9(wi:TI)(g:TG)(tb:TS):TS:=λD σ H=>wi σ H λJ H1=>∃W:Nat->Nat->St->Hp->Prop,(∃m,W 0 m σ H1)/\∀i m σ H,W i m σ H->
 (J.stop i H/\D.nx σ H)\/(J.go i H/\∃N:St->Hp->Prop,(∀σ' H',N σ' H'->∃m',m'<m/\W (i+1) m' σ' H')/\∀x H',J.yld i H x H'->g x σ H' λσ2 H2=>tb {D with nx:=N,ct:=N,bk:=D.nx} σ2 H2)
def uE(fp:List Si)(h:Sl):List (Si×Obj):=fp.filterMap λb=>(h.get? b).map λo=>(b,o)
def lU{fp:List Si}{h:Sl}{b:Si}{o:Obj}(hb:b∈fp)(e:h.get? b=some o):(b,o)∈uE fp h:=List.mem_filterMap.mpr ⟨b,hb,by rw[e];rfl⟩
def CB{fp:List Si}{h:Sl}{p:Si×Obj}(hp:p∈uE fp h):p.1∈fp/\h.get? p.1=some p.2:=by
 obtain⟨b,hb,e⟩:=List.mem_filterMap.mp hp;cases q:h.get? b with
 |none=>rw[q]at e;cases e
 |some o=>
  rw[q]at e;have e':(b,o)=p:=Option.some.inj e;subst e';exact⟨hb,q⟩
def Inv.pinned{pins:List (Si×Obj)}{σ:St}{H:Hp}{s:Sw}{fp:List Si}(I:Inv X pins σ H s)(hf:∀b∈fp,vc X pins H b)(ho:∀b∈fp,∃o,s.heap.get? b=some o/\∀v,o.data≠.cell v):Inv X (pins++uE fp s.heap) σ H s:=
 I.pins_of λp hp=>(List.mem_append.mp hp).elim (λz=>I.pin p (OU _ z)) λz=>by
  obtain⟨hb,e⟩:=CB z;obtain⟨f0,f1,f2,_⟩:=hf p.1 hb;obtain⟨o,e',d⟩:=ho p.1 hb;rw[e]at e';cases e';exact⟨e,f0,f1,f2,d⟩
def Inv.unpinned{pins pl:List (Si×Obj)}{σ:St}{H:Hp}{s:Sw}(I:Inv X (pins++pl) σ H s):Inv X pins σ H s:=I.pins_of λp hp=>I.pin p (OU _ (OM _ hp))
def HV{iter:Sz}{body:List SD}{wi:TI}{g:TG}{tb:TS}{pos:Pos}(hp:SM (model X.prog X.w) X.A X.env X.xe)(hc:X.calm=true)(hi:PI X tg iter wi)(hg:PG X tg g)(hb:xS X body tb)
  (hs:∀x,SN iter X.env x=pure x:=by intro _;rfl):PS X (.For tg iter body [] pos) (M9 wi g tb):=by
 intro pins s σ H D I h;refine wpAny_For (eZ (hi pins s σ H _ I h) λv s1 h1=>eZ h1 λitv s2 h2=>?_) hs;obtain⟨it,fp,tn,J,H2,e,I2,T,st2,f2,W,⟨m0,w0⟩,turn⟩:=h2;subst e;have stat:∀{H':Hp},(∀b∈fp,H' b=none)->∀b∈fp,vc X pins H' b:=λhn b hb=>⟨hn b hb,(f2 b hb).2⟩
 refine codeAny_forLoop_any (λn s'=>∃i σ' H',Inv X pins σ' H' s'/\tn i s'.heap/\(∀b∈fp,H' b=none)/\W i n σ' H') ?_ m0 ⟨0,σ,H2,I2,st2,λb hb=>(f2 b hb).1,w0⟩;rintro n s3 ⟨i,σ3,H3,I3,st3,fr3,w3⟩;rcases turn i n σ3 H3 w3 with⟨stop,qn⟩|⟨go,N,hN,step⟩
 ·refine SR hp (eZ (T.done X rfl rfl rfl hc i pins s3 σ3 H3 X.xe I3 (stat fr3) st3 stop) λr s4 ⟨hr,I4⟩=>?_);subst hr;exact SH ⟨σ3,H3,I4,qn⟩
 ·refine SR hp (eZ (T.item X rfl rfl rfl hc i pins s3 σ3 H3 X.xe I3 (stat fr3) st3 go) λr s4 ⟨u,hr,h4⟩=>?_);subst hr;refine SR hp (eZ h4 λ_ s5 ⟨x,H5,I5,r5,y5,st5,fr5⟩=>?_);have I5':=I5.pinned (stat fr5) (T.obj _ _ st5);refine SR hp (eZ (hg _ s5 σ3 H5 x u _ I5' r5 (step x H5 y5)) λ_ s6 ⟨σ6,H6,I6,q6⟩=>?_);refine SR hp (eZ (hb _ s6 σ6 H6 _ I6 q6) λf s7 q7=>?_);have again:∀{σ7:St}{H7:Hp},Inv X (pins++uE fp s5.heap) σ7 H7 s7->N σ7 H7->∃m,m<n/\∃i σ' H',Inv X pins σ' H' s7/\tn i s7.heap/\(∀b∈fp,H' b=none)/\W i m σ' H':=λ{σ7 H7} I7 n7=>by
   obtain⟨m',hm,w7⟩:=hN σ7 H7 n7;refine⟨m',hm,i+1,σ7,H7,I7.unpinned,T.keep _ _ _ st5 λb hb o e=>(I7.pin (b,o) (OU _ (OU _ (lU hb e)))).1,λb hb=>?_,w7⟩;obtain⟨o,e,d⟩:=T.obj _ _ st5 b hb;exact(I7.pin (b,o) (OU _ (OU _ (lU hb e)))).2.1
  cases f with
  |next=>obtain⟨σ7,H7,I7,n7⟩:=q7;exact again I7 n7
  |cont=>obtain⟨σ7,H7,I7,n7⟩:=q7;exact again I7 n7
  |brk=>obtain⟨σ7,H7,I7,q7⟩:=q7;exact⟨σ7,H7,I7.unpinned,q7⟩
  |ret v=>obtain⟨x7,σ7,H7,I7,r7,q7⟩:=q7;exact⟨x7,σ7,H7,I7.unpinned,r7,q7⟩
end
abbrev R2:=V->V->Hp->VK->Prop
def kA(X:Cx)(f:Se->Se->Sem Se)(r:R2):Prop:=
 ∀(pins:List (Si×Obj))(s:Sw)(σ:St)(H:Hp)(x y:V)(v u:Se)(Q:VK),Inv X pins σ H s->RelV x v->RelV y u->r x y H Q->
  Sy (model X.prog X.w) X.A (f v u) (EP X pins σ Q) X.xe s
def MJ(X:Cx)(f:Se->Sem Se)(r:V->Hp->VK->Prop):Prop:=
 ∀(pins:List (Si×Obj))(s:Sw)(σ:St)(H:Hp)(x:V)(v:Se)(Q:VK),Inv X pins σ H s->RelV x v->r x H Q->
  Sy (model X.prog X.w) X.A (f v) (EP X pins σ Q) X.xe s
def eR(X:Cx)(f:Se)(r:List V->Hp->VK->Prop):Prop:=
 ∀(pins:List (Si×Obj))(s:Sw)(σ:St)(H:Hp)(xs:List V)(us:List Se)(Q:VK),Inv X pins σ H s->Vals xs us->r xs H Q->
  Sy (model X.prog X.w) X.A (call f us) (EP X pins σ Q) X.xe s
def NB(X:Cx)(r:V->Hp->(Bool->Hp->Prop)->Prop):Prop:=
 ∀(pins:List (Si×Obj))(s:Sw)(σ:St)(H:Hp)(x:V)(v:Se)(Q:Bool->Hp->Prop),Inv X pins σ H s->RelV x v->r x H Q->
  Sy (model X.prog X.w) X.A (truthy v) (TP X pins σ Q) X.xe s
def JV(r:R2)(ta tb:TE):TE:=λσ H Q=>ta σ H λx H1=>tb σ H1 λy H2=>r x y H2 Q
def N0(r:V->Hp->VK->Prop)(ta:TE):TE:=λσ H Q=>ta σ H λx H1=>r x H1 Q
def rI(C:Int->Int->Prop)(g:Int->Int->V):R2:=λx y H Q=>∃i j,x=.int i/\y=.int j/\C i j/\Q (g i j) H
def C1(g:Int->Int->V):R2:=λx y H Q=>∃i j,x=.int i/\y=.int j/\Q (g i j) H
def rU(g:Int->V):V->Hp->VK->Prop:=λx H Q=>∃i,x=.int i/\Q (g i) H
section
variable{X:Cx}{a b c:Sz}{ta tb tc:TE}{pos:Pos}
def IQ(ha:PE X a ta)(hb:PE X b tb){pins:List (Si×Obj)}{s:Sw}{σ:St}{H:Hp}{R:V->V->Hp->Prop}(I:Inv X pins σ H s)
  (h:ta σ H λx H1=>tb σ H1 λy H2=>R x y H2) {Q:Se->Sw->Prop} {f:Se->Se->Sem Se}
  (hf:∀v u s2 x y H2,Inv X pins σ H2 s2->RelV x v->RelV y u->R x y H2->Sy (model X.prog X.w) X.A (f v u) Q X.xe s2):
  Sy (model X.prog X.w) X.A (eval a X.env) (λv s₁=>Sy (model X.prog X.w) X.A (eval b X.env) (λu s₂=>Sy (model X.prog X.w) X.A (f v u) Q X.xe s₂) X.xe s₁) X.xe s:=by
 refine eZ (ha pins s σ H _ I h) λv s1 ⟨x,H1,I1,r1,q1⟩=>?_;refine eZ (hb pins s1 σ H1 _ I1 q1) λu s2 ⟨y,H2,I2,r2,q2⟩=>?_;exact hf v u s2 x y H2 I2 r1 r2 q2
def Lh{op:Operator}{r:R2}(ho:kA X (SU op) r)(ha:PE X a ta)(hb:PE X b tb):PE X (.BinOp a op b pos) (JV r ta tb):=by
 intro pins s σ H Q I h;exact wpAny_BinOp (IQ ha hb I h λv u s2 x y H2 I2 rx ry q=>ho pins s2 σ H2 x y v u Q I2 rx ry q)
def K5{op:UnaryOp}{r:V->Hp->VK->Prop}(ho:MJ X (unaryOp op) r)(ha:PE X a ta):PE X (.UnaryOp op a pos) (N0 r ta):=by
 intro pins s σ H Q I h;exact UnaryOp_ (eZ (ha pins s σ H _ I h) λv s1 ⟨x,H1,I1,r1,q1⟩=>ho pins s1 σ H1 x v Q I1 r1 q1)
def La{f:Se->Se->Sem Se}{C:Int->Int->Prop}{g:Int->Int->Int}
  (rule:∀(i j:Int)(t u:Tok)(s:Sw)(Q:Se->Sw->Prop)(E:Se->Sw->Prop),C i j->Q (.int (g i j) s.toks) {s with toks:=s.toks+1}->Sy (model X.prog X.w) X.A (f (.int i t) (.int j u)) Q E s):
  kA X f (rI C λi j=>.int (g i j)):=by
 intro pins s σ H x y v u Q I rx ry h;obtain⟨i,j,rfl,rfl,hc,q⟩:=h;obtain⟨t,rfl⟩:=rx;obtain⟨t',rfl⟩:=ry;exact rule i j t t' s _ _ hc ⟨.int (g i j),H,I.tok _,⟨_,rfl⟩,q⟩
def IK{f:Se->Se->Sem Se}{g:Int->Int->Int}
  (rule:∀(i j:Int)(t u:Tok)(s:Sw)(Q:Se->Sw->Prop)(E:Se->Sw->Prop),Q (.int (g i j) s.toks) {s with toks:=s.toks+1}->Sy (model X.prog X.w) X.A (f (.int i t) (.int j u)) Q E s):
  kA X f (C1 λi j=>.int (g i j)):=by
 intro pins s σ H x y v u Q I rx ry h;obtain⟨i,j,rfl,rfl,q⟩:=h;obtain⟨t,rfl⟩:=rx;obtain⟨t',rfl⟩:=ry;exact rule i j t t' s _ _ ⟨.int (g i j),H,I.tok _,⟨_,rfl⟩,q⟩
def HR{f:Se->Se->Sem Se}{g:Int->Int->Bool}
  (rule:∀(i j:Int)(t u:Tok)(s:Sw)(Q:Se->Sw->Prop)(E:Se->Sw->Prop),Q (.bool (g i j)) s->Sy (model X.prog X.w) X.A (f (.int i t) (.int j u)) Q E s):
  kA X f (C1 λi j=>.bl (g i j)):=by
 intro pins s σ H x y v u Q I rx ry h;obtain⟨i,j,rfl,rfl,q⟩:=h;obtain⟨t,rfl⟩:=rx;obtain⟨t',rfl⟩:=ry;exact rule i j t t' s _ _ ⟨.bl (g i j),H,I,rfl,q⟩
def Lb(i j:Int):Prop:=0<=j/\j<=1000000/\i.natAbs<2^64
def IM(i j:Int):Prop:=(-(2^64)<i/\i<2^64)\/(-(2^64)<j/\j<2^64)
def IM.ok{i j:Int}(h:IM i j):IntMulOk i j:=by
 rcases h with⟨h1,h2⟩|⟨h1,h2⟩
 ·exact .of_left (intBits_le_64 h1 h2)
 ·exact .of_right (intBits_le_64 h1 h2)
def zR(k:Nat):(0:Int)<=2^k:=by
 rw[two_pow_cast];exact Int.natCast_nonneg _
def Im:kA X (SU .Add) (C1 λi j=>.int (i+j)):=IK λ_ _ _ _ _ _ _ q=>add_int q
def oW:kA X (SU .Sub) (C1 λi j=>.int (i-j)):=IK λ_ _ _ _ _ _ _ q=>sub_int q
def jS:kA X (SU .Mult) (rI IM λi j=>.int (i*j)):=La λ_ _ _ _ _ _ _ hc q=>mul_int q hc.ok
def bj:kA X (SU .Mod) (rI (λ_ j=>0<j) λi j=>.int (i%j)):=La λi j _ _ _ _ _ hc q=>by
 have h1:(0:Int)<j:=hc;exact mod_int' ‹0› (by rw[Int.fmod_eq_emod_of_nonneg i ‹0›];exact q)
def iG:kA X (SU .Pow) (rI Lb λi j=>.int (i^j.toNat)):=La λ_ _ _ _ _ _ _ hc q=>pow_int_small hc.1 hc.2.1 hc.2.2 q
def Ak:kA X (SU .RShift) (rI (λ_ j=>0<=j) λi j=>.int (i/2^j.toNat)):=La λi j _ _ _ _ _ hc q=>
 rshift_int hc (by rw[OV i (zR _)];exact q)
def zQ:kA X (SU .BitAnd) (C1 λi j=>.int (Builtin.bitAnd i j)):=IK λ_ _ _ _ _ _ _ q=>and_int q
def Oy{f:Se->Sem Se}{g:Int->Int}
  (rule:∀(i:Int)(t:Tok)(s:Sw)(Q:Se->Sw->Prop)(E:Se->Sw->Prop),Q (.int (g i) s.toks) {s with toks:=s.toks+1}->Sy (model X.prog X.w) X.A (f (.int i t)) Q E s):
  MJ X f (rU λi=>.int (g i)):=by
 intro pins s σ H x v Q I rx h;obtain⟨i,rfl,q⟩:=h;obtain⟨t,rfl⟩:=rx;exact rule i t s _ _ ⟨.int (g i),H,I.tok _,⟨_,rfl⟩,q⟩
def Jm:MJ X (unaryOp .USub) (rU λi=>.int (-i)):=Oy λ_ _ _ _ _ q=>neg_int q
end
section
variable{X:Cx}{a b c:Sz}{ta tb tc:TE}{pos:Pos}
def Df{pins:List (Si×Obj)}{σ:St}{H:Hp}{s:Sw}{Q:VK}{k k':Bool}(I:Inv X pins σ H s)(q:Q (.bl k) H)(e:k=k'):EP X pins σ Q (.bool k') s:=by
 subst e;exact⟨.bl k,H,I,rfl,q⟩
def Kv:kA X (SV .Lt) (C1 λi j=>.bl (decide (i<j))):=HR λ_ _ _ _ _ _ _ q=>lt_int q
def DV:kA X (SV .LtE) (C1 λi j=>.bl (decide (i<=j))):=HR λ_ _ _ _ _ _ _ q=>le_int q
def KQ:kA X (SV .Gt) (C1 λi j=>.bl (decide (j<i))):=HR λ_ _ _ _ _ _ _ q=>gt_int q
def CI:kA X (SV .Lt) (λx y H Q=>∃i j,x=.str i/\y=.str j/\Q (.bl (decide (i.cps.toList<j.cps.toList))) H):=by
 intro pins s σ H x y v u Q I rx ry h;obtain⟨i,j,rfl,rfl,q⟩:=h;obtain⟨t,rfl⟩:=rx;obtain⟨t',rfl⟩:=ry;exact lt_str (Df I q rfl)
def cj(b:Sz){op:SW}(h:op≠.In:=by decide)(h2:op≠.NotIn:=by decide):SY op b=false:=by
 have e1:(op==CmpOp.In)=false:=by cases op<;>first|rfl|exact absurd rfl h
 have e2:(op==CmpOp.NotIn)=false:=by cases op<;>first|rfl|exact absurd rfl h2
 cases b<;>simp[SY,e1,e2]
def Gk{op:SW}{r:R2}(ho:kA X (SV op) r)(ha:PE X a ta)(hb:PE X b tb)(hm:SY op b=false):PE X (.Compare a [op] [b] pos) (JV r ta tb):=by
 intro pins s σ H Q I h;exact wpAny_Compare1 (IQ ha hb I h λv u s2 x y H2 I2 rx ry q=>ho pins s2 σ H2 x y v u Q I2 rx ry q) hm
def He(t:TE):TT:=λσ H Q=>t σ H λx H'=>∃k,x=.bl k/\Q k H'
def Fy{op:SW}{r:R2}(ho:kA X (SV op) r)(ha:PE X a ta)(hb:PE X b tb)(hm:SY op b=false):PT X (.Compare a [op] [b] pos) (He (JV r ta tb)):=by
 intro pins s σ H Q I h;refine wpAny_isTrue_Compare1 (eZ (ha pins s σ H _ I h) λv s1 ⟨x,H1,I1,r1,q1⟩=>eZ (hb pins s1 σ H1 _ I1 q1) λu s2 ⟨y,H2,I2,r2,q2⟩=>
  eZ (ho pins s2 σ H2 x y v u _ I2 r1 r2 q2) λc s3 ⟨z,H3,I3,r3,k,e,q3⟩=>?_) hm
 subst e;cases r3;exact SG ⟨H3,I3,q3⟩
def Fb(r r':R2)(ta tb tc:TE):TE:=λσ H Q=>ta σ H λx H1=>tb σ H1 λy H2=>r x y H2 λz H3=>∃k,z=.bl k/\
 (if k=true then tc σ H3 λw' H4=>r' y w' H4 Q else Q (.bl false) H3)
def DQ{op op':SW}{r r':R2}(ho:kA X (SV op) r)(ho':kA X (SV op') r')(ha:PE X a ta)(hb:PE X b tb)(hc:PE X c tc)
  (hm:lastMarks [op,op'] [b,c]=false:=by with_unfolding_all rfl):PE X (.Compare a [op,op'] [b,c] pos) (Fb r r' ta tb tc):=by
 intro pins s σ H Q I h;refine Compare_chain (eZ (ha pins s σ H _ I h) λv s1 ⟨x,H1,I1,r1,q1⟩=>chain_link (eZ (hb pins s1 σ H1 _ I1 q1) λu s2 ⟨y,H2,I2,r2,q2⟩=>
  eZ (ho pins s2 σ H2 x y v u _ I2 r1 r2 q2) λd s3 ⟨z,H3,I3,r3,k,e,q3⟩=>?_)) hm
 subst e;cases r3;refine SG ?_;cases k with
 |false=>exact ite_ff ⟨.bl false,H3,I3,rfl,q3⟩
 |true=>exact ite_tt (chain_last (eZ (hc pins s3 σ H3 _ I3 q3) λw' s4 ⟨z',H4,I4,r4,q4⟩=>ho' pins s4 σ H4 y z' u w' Q I4 r2 r4 q4))
def J8(K:Q7)(x:V)(H:Hp)(k:Bool):Prop:=
 match x with
 |.non=>k=false
 |.bl b=>k=b
 |.int i=>k=(i !=0)
 |.str y=>y.length<=Sn/\k=((y.length:Int) !=0)
 |.byt y=>y.size<=Sn/\k=((y.size:Int) !=0)
 |.ref p=>(∃xs,o9 K H p xs/\k=!xs.isEmpty)\/(∃xs,qv K H p xs/\k=!xs.isEmpty)\/∃kvs,H p=some (.dK kvs)/\k=!kvs.isEmpty
 |_=>False
def zK{κ:Type}{kvs:List (κ×V)}{vs:List (κ×Se)}(r:KV kvs vs):(!vs.isEmpty)=!kvs.isEmpty:=by
 cases r<;>rfl
def ur{xs:List V}{its:List Se}(r:Vals xs its):(!its.toArray.isEmpty)=!xs.isEmpty:=by
 cases r<;>simp
def qF:(Sn:Nat)<2^63:=by rw[SZ];decide
def Jt:NB X (λx H Q=>∃k,J8 X.K x H k/\Q k H):=by
 intro pins s σ H x v Q I rx h;obtain⟨k,e,q⟩:=h;have hl:=qF;have hs:Sn=16777216:=SZ;cases x with
 |non=>
  cases rx;have e':k=false:=e;subst e';exact truthy_none ⟨H,I,q⟩
 |bl b=>
  cases rx;have e':k=b:=e;subst e';exact SG ⟨H,I,q⟩
 |int i=>
  obtain⟨t,rfl⟩:=rx;have e':k=(i !=0):=e;subst e';exact PySem.P.truthy_int ⟨H,I,q⟩
 |str y=>
  obtain⟨t,rfl⟩:=rx;obtain⟨hy,e'⟩:y.length<=Sn/\k=((y.length:Int) !=0):=e;subst e';exact PySem.P.truthy_str ‹0› ⟨H,I.tok _,q⟩
 |byt y=>
  obtain⟨t,rfl⟩:=rx;obtain⟨hy,e'⟩:y.size<=Sn/\k=((y.size:Int) !=0):=e;subst e';exact PySem.W.truthy_bytes ‹0› ⟨H,I.tok _,q⟩
 |ref p=>
  cases rx;have e':(∃xs,o9 X.K H p xs/\k=!xs.isEmpty)\/(∃xs,qv X.K H p xs/\k=!xs.isEmpty)\/∃kvs,H p=some (.dK kvs)/\k=!kvs.isEmpty:=e;rcases e' with⟨xs,hx,e'⟩|⟨xs,hx,e'⟩|⟨kvs,hx,e'⟩
  ·subst e';obtain⟨its,r,pl,hz⟩:=I.list hx;have hlen:=r.length;exact wpAny_truthy_list pl.isList (by simp only[OW];omega) ⟨H,I.tok _,by rw[ur r];exact q⟩
  ·subst e';obtain⟨its,r,pl,hz⟩:=I.tuple hx;have hlen:=r.length;exact truthy_tuple pl (by simp only[OW];omega) ⟨H,I.tok _,by rw[ur r];exact q⟩
  ·subst e';obtain⟨hz,hS,vs,r,m⟩:kvs.length<=Sn/\(p==sysModules)=false/\∃vs,KV kvs vs/\s.heap.DictOf (dr X.prog X.w) p vs:=I.hok p _ hx;have hlen:kvs.length=vs.length:=Paired.length r;exact wpAny_truthy_dict hS m ‹0› ⟨H,I.tok _,by rw[zK r];exact q⟩
 |_=>exact(show False from e).elim
def Ea(ha:PE X a ta)(he:∀whole,isTrue a X.env whole=(do let v<-whole;standAt a.pos;holding [v] (truthy v))):
  PT X a (λσ H Q=>ta σ H λx H'=>∃k,J8 X.K x H' k/\Q k H'):=by
 intro pins s σ H Q I h;exact isTrue_plain (eZ (ha pins s σ H _ I h) λv s1 ⟨x,H1,I1,r1,q1⟩=>Jt pins s1 σ H1 x v Q I1 r1 q1) (he _)
def zy:kA X (SU .Add) (λx y H Q=>∃i j,x=.str i/\y=.str j/\i.length+j.length<=Sn/\Q (.str (i++j)) H):=by
 intro pins s σ H x y v u Q I rx ry h;obtain⟨i,j,rfl,rfl,hz,q⟩:=h;obtain⟨t,rfl⟩:=rx;obtain⟨t',rfl⟩:=ry;exact add_str (λt' tk=>⟨.str (i++j),H,I.tok _,⟨_,rfl⟩,q⟩) hz
def vals1{x:V}{us:List Se}(r:Vals [x] us):∃u,us=[u]/\RelV x u:=by
 cases r with
 |cons r1 r2=>cases r2;exact⟨_,rfl,r1⟩
def vals2{x y:V}{us:List Se}(r:Vals [x,y] us):∃u w',us=[u,w']/\RelV x u/\RelV y w':=by
 cases r with
 |cons r1 r2=>
  cases r2 with
  |cons r3 r4=>cases r4;exact⟨_,_,rfl,r1,r3⟩
def BU(hc:X.calm=true):eR X (.builtin "max") (λxs H Q=>∃i j,xs=[.int i,.int j]/\Q (.int (if j>i then j else i)) H):=by
 intro pins s σ H xs us Q I r h;obtain⟨i,j,rfl,q⟩:=h;obtain⟨u,w',rfl,⟨t,rfl⟩,⟨t',rfl⟩⟩:=vals2 r;refine max_two_ints (I.ok.hd hc) λh' tk k=>⟨_,H,I.kept k,?_,q⟩
 by_cases hj:j>i
 ·rw[if_pos hj,if_pos hj];exact⟨_,rfl⟩
 ·rw[if_neg hj,if_neg hj];exact⟨_,rfl⟩
def Cr(hc:X.calm=true):eR X (.builtin "min") (λxs H Q=>∃i j,xs=[.int i,.int j]/\Q (.int (if j<i then j else i)) H):=by
 intro pins s σ H xs us Q I r h;obtain⟨i,j,rfl,q⟩:=h;obtain⟨u,w',rfl,⟨t,rfl⟩,⟨t',rfl⟩⟩:=vals2 r;refine min_two_ints (I.ok.hd hc) λh' tk k=>⟨_,H,I.kept k,?_,q⟩
 by_cases hj:j<i
 ·rw[if_pos hj,if_pos hj];exact⟨_,rfl⟩
 ·rw[if_neg hj,if_neg hj];exact⟨_,rfl⟩
def vP:eR X (.type "int") (λxs H Q=>(∃i,xs=[.int i]/\Q (.int i) H)\/∃k,xs=[.bl k]/\Q (.int (if k then 1 else 0)) H):=by
 intro pins s σ H xs us Q I r h;rcases h with⟨i,rfl,q⟩|⟨k,rfl,q⟩
 ·obtain⟨u,rfl,t,rfl⟩:=vals1 r;exact call_int_int ⟨.int i,H,I,⟨_,rfl⟩,q⟩
 ·obtain⟨u,rfl,r1⟩:=vals1 r;cases r1;exact call_int_bool ⟨.int (if k then 1 else 0),H,I.tok _,⟨_,rfl⟩,q⟩
end
structure DR(h:Sl)(x dx C:Si)(mA:Str->Option Se):Prop where
 obj:h.get? x=some (Q5 C dx)
 ns:h.Ns1 dx mA
 ne:dx≠x
def Cg{h:Sl}{dx:Si}{mA:Str->Option Se}(n:h.Ns1 dx mA):∃od,h.get? dx=some od/\∀name,Q8 name od=some (mA name):=by
 obtain⟨o,es,ep,ho,hd,hk,_,hm⟩:=n;refine⟨o,ho,λname=>?_⟩;have e:=hm name;unfold nsFind findBy at e;rw[<-Array.find?_toList]at e;unfold Q8;rw[hd];dsimp only;split
 ·rename_i y q;rw[q]at e;exact congrArg some e
 ·rename_i q;rw[q]at e;have a:es.toList.any (·.refKey)=false:=by
   rw[List.any_eq_false];intro y hy;obtain⟨z,t,hkey⟩:=hk y (Array.mem_toList_iff.mp hy);simp[DictEntry.refKey,hkey]
  have a':¬es.toList.any (·.refKey)=true:=by rw[a];exact OX
  rw[if_neg a'];exact congrArg some e
def DR.look{h:Sl}{x dx C:Si}{mA:Str->Option Se}(I:DR h x dx C mA):∃od,PySem.W.InstAt h x (Q5 C dx) C (some od)/\∀name,Q8 name od=some (mA name):=
 let ⟨od,ho,hl⟩:=Cg I.ns
 ⟨od,⟨I.obj,rfl,rfl,ho⟩,hl⟩
section
variable{prog:Sg}{w:Sf}{A:Sv}{E:Se->Sw->Prop}{s:Sw}{K:Q7}{x dx C f:Si}{mA:Str->Option Se}{name:Str}{v:Se}
def DB{pl:Sem Bool}{Q:Se×List Se->Sw->Prop}(X:K.In s.heap)(I:DR s.heap x dx C mA)(hg:Q9 K C name=true)
  (hf:Ra K (.ref C) name=some (some (.ref f))) (ht:Rb K (.ref f)=true) (hv:mA name=none) (h:Q (.ref f,[.ref x]) s):
  Sy (model prog w) A (getMethod (.ref x) name pl) Q E s:=by
 obtain⟨od,J,hl⟩:=I.look;exact PySem.W.method_fn X J (Rc hg).1 (Rc hg).2 hf (beq_iff_eq.mp ht) (by show(Q8 name od).map (·.isSome)=some false;rw[hl,hv];rfl) h
def Fp{ns:List Str}{Q:Unit->Sw->Prop}(X:K.In s.heap)(I:DR s.heap x dx C mA)
  (hs:Ra K (.ref C) "__setattr__"=some (some (.builtin "object.__setattr__"))) (hp:Rf K C=true) (ht:Rg K C name=some none) (hh:Rh K C=true)
  (hw:PySem.Within mA ns) (hsz:ns.length<=Sn)
  (h:∀h',DR h' x dx C (λy=>if y=name then some v else mA y)->RK dx s.heap h'->Q () {s with heap:=h',toks:=s.toks+2}):
  Sy (model prog w) A (setAttr (.ref x) name v) Q E s:=by
 obtain⟨od,J,hl⟩:=I.look;refine PySem.W.set_plain X J hs (PySem.W.osa_open (s:={s with toks:=s.toks+1}) (r:=none) X J hp ht λb=>?_);obtain⟨cd,hc,hd'⟩:=PySem.W.any_some hh;have hx:s.heap.get? x=some ⟨.ref C,some dx,.plain,#[]⟩:=I.obj;refine SK (SJ (SK (SK (wpAny_loadPart hx (SK (PySem.W.Looks.here (s:={s with toks:=s.toks+1}) (PySem.W.looks_clsIn X hc) ?_))))));rw[hd'];refine SJ (a:=some dx) (SK (SJ (SK ?_)));refine wpAny_nsSet1 (s:={s with toks:=s.toks+1}) I.ns λh' hn2 hs2=>?_;obtain⟨oD,esD,epD,hoD,hdD,hcD⟩:=hn2.count (PySem.Within.cons name v hw);refine SK (wpAny_lookBehind hoD (by rw[hdD];exact pastItsLine_dict (OG hcD (by rw[OY];omega))) ?_);exact SJ (h _ ⟨(hs2.2 _ (Ne.symm I.ne)).trans I.obj,hn2,I.ne⟩ hs2)
def C9{R:Result->Sw->Prop}{vs:List Se}{kw:List (Str×Se)}(X:K.In s.heap)(hm:Ri K C=true)
  (hi:Ra K (.ref C) "__init__"=some (some (.ref f))) (hf:PySem.W.typeIn K (.ref f)=some (.type "function"))
  (h:S0 (model prog w) (A.under (.builtin "type.__call__" ⟨.ref C::vs,kw⟩)) (.call (.ref f) ⟨.ref (s.heap.objs.size+1)::vs,kw⟩) (Rj (s.heap.objs.size+1) R)
   {s with heap:=(s.heap.push Rl).push (Q5 C s.heap.objs.size)}):
  S0 (model prog w) A (.call (.ref C) ⟨vs,kw⟩) R s:=by
 obtain⟨hh,g,d,t,os⟩:=s;exact Rm (Rn X hm) (Ro X hi) (λself=>PySem.W.bind_fn X self hf) (.inl rfl) h
def Ci{R:Result->Sw->Prop}(X:K.In s.heap)(hm:Ri K C=true)
  (hi:Ra K (.ref C) "__init__"=some (some (.builtin "object.__init__")))
  (hb:∀self,Rp (model prog w) s.heap (bindSpecial (.builtin "object.__init__") self) (.builtin "object.__init__",[self]))
  (h:S0 (model prog w) (A.under (.builtin "type.__call__" ⟨[.ref C],[]⟩)) (.call (.builtin "object.__init__") ⟨[.ref (s.heap.objs.size+1)],[]⟩) (Rj (s.heap.objs.size+1) R)
   {s with heap:=(s.heap.push Rl).push (Q5 C s.heap.objs.size)}):
  S0 (model prog w) A (.call (.ref C) ⟨[],[]⟩) R s:=by
 obtain⟨hh,g,d,t,os⟩:=s;exact Rm (Rn X hm) (Ro X hi) hb (.inr ⟨rfl,rfl⟩) h
end
def mK(f:Str)(v:V):List (Str×V)->List (Str×V)
 |[]=>[(f,v)]
 |(g,x)::r=>if g=f then(g,v)::r else(g,x)::mK f v r
def rK(f g:Str)(v:V):∀fs:List (Str×V),(mK f v fs).lookup g=if g=f then some v else fs.lookup g
 |[]=>by
  show List.lookup g [(f,v)]=_;by_cases h:g=f
  ·have hb:(g==f)=true:=beq_iff_eq.mpr h;simp only[List.lookup,hb,if_pos h]
  ·have hb:(g==f)=false:=beq_eq_false_iff_ne.mpr h;simp only[List.lookup,hb,if_neg h]
 |(k,x)::r=>by
  have ih:=rK f g v r;rw[show mK f v ((k,x)::r)=(if k=f then(k,v)::r else(k,x)::mK f v r)from rfl];by_cases hk:k=f
  ·rw[if_pos hk];by_cases h:g=k
   ·have hb:(g==k)=true:=beq_iff_eq.mpr h;simp only[List.lookup,hb,if_pos (h.trans hk)]
   ·have hb:(g==k)=false:=beq_eq_false_iff_ne.mpr h;simp only[List.lookup,hb,if_neg (λe:g=f=>h (e.trans hk.symm))]
  ·rw[if_neg hk];by_cases h:g=k
   ·have hb:(g==k)=true:=beq_iff_eq.mpr h;simp only[List.lookup,hb,if_neg (λe:g=f=>hk (h.symm.trans e))]
   ·have hb:(g==k)=false:=beq_eq_false_iff_ne.mpr h;simp only[List.lookup,hb];exact ih
def qD(f:Str)(v:V):∀fs:List (Str×V),f∈(mK f v fs).map (·.1)/\∀g,g∈fs.map (·.1)->g∈(mK f v fs).map (·.1)
 |[]=>⟨by simp[mK],λg h=>by simp at h⟩
 |(k,x)::r=>by
  obtain⟨i1,i2⟩:=qD f v r;rw[show mK f v ((k,x)::r)=(if k=f then(k,v)::r else(k,x)::mK f v r)from rfl];by_cases hk:k=f
  ·rw[if_pos hk];subst hk;exact⟨by simp,λg h=>by simpa using h⟩
  ·rw[if_neg hk];refine⟨?_,λg h=>?_⟩
   ·rw[OZ];exact OL _ i1
   ·rw[OZ]at h ⊢;rcases List.mem_cons.mp h with e|e
    ·exact List.mem_cons.mpr (.inl e)
    ·exact OL _ (i2 g e)
def rF(f:Str)(v:V):∀fs:List (Str×V),(mK f v fs).length<=fs.length+1
 |[]=>by simp[mK]
 |(k,x)::r=>by
  have ih:=rF f v r;rw[show mK f v ((k,x)::r)=(if k=f then(k,v)::r else(k,x)::mK f v r)from rfl];by_cases hk:k=f
  ·rw[if_pos hk,OY,OY];omega
  ·rw[if_neg hk,OY,OY];omega
def wY.some_of{v:V}{o:Option Se}(r:wY (some v) o):∃u,o=some u/\RelV v u:=by
 cases o with
 |none=>exact(show False from r).elim
 |some u=>exact⟨u,rfl,r⟩
def wY.none_of{o:Option Se}(r:wY none o):o=none:=by
 cases o with
 |none=>rfl
 |some u=>exact(show False from r).elim
section
variable{P:Sg}{w:Sf}{H H':Hp}{h h':Sl}{a C dx:Si}{fs fs':List (Str×V)}
def A1(hok:pA P w H h)(e:H a=some (.ins C dx fs)):∃mA,DR h a dx C mA/\(∀f,wY (fs.lookup f) (mA f))/\PySem.Within mA (fs.map (·.1))/\fs.length<=1000/\H dx=some (.own a):=by
 obtain⟨d,z,ne,ob,mA,n,r,q⟩:=(show dq P w H h a (.ins C dx fs)from hok a _ e)
 exact⟨mA,⟨ob,n,ne⟩,r,q,z,d⟩
end
structure Bz(K:Q7)(C:Si):Prop where
 pg:Q9 K C Str.empty=true
 hd:Rh K C=true
 po:Rf K C=true
 sa:Ra K (.ref C) "__setattr__"=some (some (.builtin "object.__setattr__"))
def Bz.get{K:Q7}{C:Si}(c:Bz K C)(f:Str):Q9 K C f=true:=c.pg
def qx(K:Q7)(C:Si)(f:Str):Prop:=Ra K (.ref C) f=some none
def qx.taker{K:Q7}{C:Si}{f:Str}(n:qx K C f):Rg K C f=some none:=by
 unfold Rg;rw[show Ra K (.ref C) f=some none from n];rfl
structure Meth(K:Q7)(C:Si)(m:Str)(f:Si):Prop where
 at_:Ra K (.ref C) m=some (some (.ref f))
 fn:Rb K (.ref f)=true
 kp:Rq K (.ref f)=true
section
variable{X:Cx}{pins:List (Si×Obj)}{σ:St}{H:Hp}{s:Sw}{a C dx:Si}{fs:List (Str×V)}{f:Str}{v:V}{A:Sv}{E:Se->Sw->Prop}
def zJ{m:Str}{g:Si}{pl:Sem Bool}{Q:Se×List Se->Sw->Prop}(I:Inv X pins σ H s)(e:H a=some (.ins C dx fs))(c:Bz X.K C)(k:Meth X.K C m g)(l:fs.lookup m=none)
  (h:Q (.ref g,[.ref a]) s):Sy (model X.prog X.w) A (getMethod (.ref a) m pl) Q E s:=by
 obtain⟨mA,O,r,_,_,_⟩:=A1 I.hok e;have hn:mA m=none:=wY.none_of (by rw[<-l];exact r m);exact DB I.kIn O (c.get m) k.at_ k.fn hn h
def zu{y:V}{u:Se}{Q:Unit->Sw->Prop}(I:Inv X pins σ H s)(e:H a=some (.ins C dx fs))(c:Bz X.K C)(n:qx X.K C f)(hl:fs.length<1000)(ry:RelV y u)
  (h:∀s',Inv X pins σ (upd H a (.ins C dx (mK f y fs))) s'->Q () s'):Sy (model X.prog X.w) A (setAttr (.ref a) f u) Q E s:=by
 obtain⟨mA,O,r,wi,_,ho⟩:=A1 I.hok e;have hz:(fs.map (·.1)).length<=Sn:=by rw[O0,SZ];omega
 refine Fp I.kIn O c.sa c.po n.taker c.hd wi hz λh' O' sb=>h _ ?_;have hd:∃o,h'.get? dx=some o:=let ⟨o,_,_,e',_⟩:=O'.ns;⟨o,e'⟩
 refine I.write (x:=a) (e:=dx) (by rw[e];exact True.intro) (.inr ho) (λb q hb z=>(sb.2 b hb).trans z) hd ?_;refine⟨by rw[bp O.ne];exact ho,?_,O.ne,O'.obj,_,O'.ns,λg=>?_,λg hg=>?_⟩
 ·have:=rF f y fs;omega
 ·show wY ((mK f y fs).lookup g) (if g=f then some u else mA g);rw[rK];by_cases q:g=f
  ·rw[if_pos q,if_pos q];exact ry
  ·rw[if_neg q,if_neg q];exact r g
 ·by_cases q:g=f
  ·rw[q];exact(qD f y fs).1
  ·refine(qD f y fs).2 g (wi g λz=>hg ?_);show(if g=f then some u else mA g)=none;rw[if_neg q];exact z
def Inv.made(I:Inv X pins σ H s):Inv X pins σ (upd (upd H s.heap.objs.size (.own (s.heap.objs.size+1))) (s.heap.objs.size+1) (.ins C s.heap.objs.size []))
  {s with heap:=(s.heap.push Rl).push (Q5 C s.heap.objs.size)}:=by
 have e1:(s.heap.push Rl).get? s.heap.objs.size=some Rl:=RM s.heap rfl;have e2:((s.heap.push Rl).push (Q5 C s.heap.objs.size)).get? (s.heap.objs.size+1)=some (Q5 C s.heap.objs.size):=by
  have:=RM (s.heap.push Rl) (o:=Q5 C s.heap.objs.size) rfl
  rwa [RN]at this
 have e3:(s.heap.push Rl).Ns s.heap.objs.size (λ_=>none):=⟨Rl,#[],_,e1,rfl,(λe he=>absurd he (by simp)),λ_=>rfl⟩
 have I1:=I.laid (a:=s.heap.objs.size) (o:=.own (s.heap.objs.size+1)) (h':=s.heap.push Rl) (t':=s.toks) (λb u q=>RL _ q) (OT _) ⟨_,e1⟩;refine I1.laid (a:=s.heap.objs.size+1) (o:=.ins C s.heap.objs.size []) (t':=s.toks) (λb u q=>RL _ q) (O1 (RN _ _)) ?_;have ne:s.heap.objs.size≠s.heap.objs.size+1:=OD (O2 _);refine⟨by rw[bp ne,bI],O3 _,ne,e2,λ_=>none,(Heap.Ns1.of_empty e3).at λo q=>RL _ q,λ_=>True.intro,λy hy=>absurd rfl hy⟩
end
def NN(K:Q7)(ta tv:TE)(f:Str):TS:=λD σ H=>tv σ H λy H1=>ta σ H1 λx H2=>∃a C dx fs,x=.ref a/\H2 a=some (.ins C dx fs)/\Bz K C/\qx K C f/\fs.length<1000/\
 D.nx σ (upd H2 a (.ins C dx (mK f y fs)))
section
variable{X:Cx}{o e value:Sz}{f:Str}{pos pos' tpos:Pos}{ta tv:TE}
def IG(ha:PE X o ta)(hv:PE X value tv)(hs:swapsWith value (some (.Attribute o f pos')) pos.line X.env=pure false):PS X (.Assign [.Attribute o f pos'] value pos) (NN X.K ta tv f):=by
 intro pins s σ H D I h;refine plainObj_wpAny_Assign_Attribute (eZ (hv pins s σ H _ I h) λu s1 ⟨y,H1,I1,ry,q⟩=>eZ (ha pins s1 σ H1 _ I1 q) λov s2 ⟨x,H2,I2,rx,a,C,dx,fs,ex,ea,c,n,l,q2⟩=>?_) hs;subst ex;obtain rfl:ov=Value.ref a:=rx;exact zu I2 ea c n l ry λs3 I3=>⟨σ,_,I3,q2⟩
def yz{pl:Sem Bool}{m:Str}{apos:Pos}{args:List Sz}{pins:List (Si×Obj)}{s:Sw}{σ:St}{H:Hp}{Q:Se->Sw->Prop}{te:TE}(he:PE X e te)(I:Inv X pins σ H s)
  (h:te σ H fun x H1=>∃ a C dx fs g,x=.ref a/\H1 a=some (.ins C dx fs)/\Bz X.K C/\Meth X.K C m g/\fs.lookup m=none /\
   ∀s1,Inv X pins σ H1 s1->Sy (model X.prog X.w) X.A (S3 pos (.ref g) [.ref a] (backTo pos (SA args X.env)) (backToKw pos (S4 [] X.env))) Q X.xe s1)
  (ht:eval (.Call (.Attribute e m apos) args [] pos) X.env=(do
   let ov<-eval e X.env
   standAt apos.atName
   let (f,first)<-holding [ov] (getMethod ov m pl)
   S3 pos f first (backTo pos (SA args X.env)) (backToKw pos (S4 [] X.env)))):
  Sy (model X.prog X.w) X.A (eval (.Call (.Attribute e m apos) args [] pos) X.env) Q X.xe s:=by
 refine PySem.W.methodCall_KW (pl:=pl) (eZ (he pins s σ H _ I h) λu s1 ⟨x,H1,I1,rx,a,C,dx,fs,g,ex,ea,c,k,l,q⟩=>?_) ht;subst ex;obtain rfl:u=Value.ref a:=rx;exact zJ I1 ea c k l (q s1 I1)
end
structure gP(k:Nat)(A:Sv):Prop where
 hd:A.handled=none
 dp:A.depth+3*k+5<S5
 un:A.units+16*k+200<S6
def gP.mono{j k:Nat}{A:Sv}(r:gP k A)(h:j<=k):gP j A:=⟨r.hd,by have:=r.dp;omega,by have:=r.un;omega⟩
def gP.deeper{k:Nat}{A:Sv}(r:gP (k+1) A)(env:Env):gP k (A.deeper env):=
 ⟨r.hd,by have:=r.dp;show A.depth+1+3*k+5<_;omega,by have:=r.un;show A.units+3+16*k+200<_;omega⟩
def zo{A:Sv}{C:Si}{us:List Se}{kw:List (Str×Se)}:(A.under (.builtin "type.__call__" ⟨.ref C::us,kw⟩)).depth=A.depth+1:=by
 first|rfl|simp[Around.under,Code.weight,Code.isCreation,Code.isGuard,Code.isCaller,Code.frames,Code.isFrame,guardIds]
def Ah{A:Sv}{C:Si}{us:List Se}{kw:List (Str×Se)}:(A.under (.builtin "type.__call__" ⟨.ref C::us,kw⟩)).units=A.units+1:=by
 first|rfl|simp[Around.under,Code.cUnits,Code.frames,Code.isFrame]
def gP.make{k:Nat}{A:Sv}(r:gP (k+1) A)(C:Si)(us:List Se)(kw:List (Str×Se)):gP k (A.under (.builtin "type.__call__" ⟨.ref C::us,kw⟩)):=
 ⟨r.hd,by have:=r.dp;rw[zo];omega,by have:=r.un;rw[Ah];omega⟩
def gP.depth{k:Nat}{A:Sv}(r:gP k A):A.depth<S5:=by have:=r.dp;omega
def gP.units{k:Nat}{A:Sv}(r:gP k A):A.units+64<S6:=by have:=r.un;omega
def Mu:TA:=λ_ H Q=>Q [] H
def JU(ta:TE)(tr:TA):TA:=λσ H Q=>ta σ H λx H1=>tr σ H1 λxs H2=>Q (x::xs) H2
section
variable{X:Cx}{e:Sz}{es:List Sz}{te:TE}{t:TA}{pos:Pos}
def wq:PA X [] Mu:=λ_ _ _ _ H Q I h=>Calls.spliced_nil ⟨[],H,I,.nil,h⟩
def pj(ha:PE X e te)(hr:PA X es t)(hs:SA (e::es) X.env=(false,eval e X.env)::SA es X.env:=by rfl):PA X (e::es) (JU te t):=by
 intro pos pins s σ H Q I h;rw[hs];show Sy _ _ (spliced ((false,eval e X.env)::backTo pos (SA es X.env))) _ _ s;refine Calls.spliced_cons (eZ (ha pins s σ H _ I h) λu s1 ⟨x,H1,I1,r1,q1⟩=>?_);exact eZ (hr pos pins s1 σ H1 _ I1 q1) λus s2 ⟨xs,H2,I2,r2,q2⟩=>⟨x::xs,H2,I2,.cons r1 r2,q2⟩
def ND(t:TA):TE:=λσ H Q=>t σ H λxs H1=>xs.length<=Sn/\∀p,H1 p=none->Q (.ref p) (upd H1 p (.tup xs))
def M8(t:TA):TE:=λσ H Q=>t σ H λxs H1=>xs.length<=Sn/\∀p,H1 p=none->Q (.ref p) (upd H1 p (.lst xs))
def Ju{x1}(h:PA X es t):PE X (.Tuple es x1 pos) (ND t):=by
 intro pins s σ H Q I hq;refine wpAny_Tuple_spliced (eZ (h pos pins s σ H _ I hq) λus s1 ⟨xs,H1,I1,r,z,q⟩=>⟨by rw[<-r.length];exact z,?_⟩);have hf:H1 s1.heap.objs.size=none:=I1.hok.fresh (OT _);refine⟨.ref s1.heap.objs.size,upd H1 s1.heap.objs.size (.tup xs),I1.laid (t':=s1.toks) (λb u e=>RL _ e) (OT _) ?_,rfl,q _ hf⟩;exact⟨z,us,r,⟨_,RM _ rfl,rfl,_,rfl⟩⟩
def Fa(h:PA X es t):PE X (.List es pos) (M8 t):=by
 intro pins s σ H Q I hq;refine wpAny_List_spliced (eZ (h pos pins s σ H _ I hq) λus s1 ⟨xs,H1,I1,r,z,q⟩=>⟨by rw[<-r.length];exact z,?_⟩);have hf:H1 s1.heap.objs.size=none:=I1.hok.fresh (OT _);refine⟨.ref s1.heap.objs.size,upd H1 s1.heap.objs.size (.lst xs),I1.laid (t':=s1.toks) (λb u e=>RL _ e) (OT _) ?_,rfl,q _ hf⟩;exact⟨z,us,0,r,RM _ rfl⟩
end
abbrev Sp:=List V->Hp->VK->XK->Prop
abbrev zF:=List Env->Hp->Sw->XK->Se->Sw->Prop
structure Ce(P:Sg)(w:Sf)(K:Q7)(mg:Str->Option Se)(base:Sl)(A:Sv)(outer:List Env)(s:Sw)(H:Hp):Prop where
 frames:A.frames=some outer
 mod:Mod K mg base
 bs:∀b o,base.get? b=some o->s.heap.get? b=some o/\H b=none
 bsz:base.objs.size<=s.heap.objs.size
 funs:s.heap.FunFrames base outer
 frf:∀b∈frs outer,H b=none
 hok:pA P w H s.heap
 bare:AllBare s.gens
def CE(outer:List Env)(P:Sg)(w:Sf)(H:Hp)(s:Sw)(Q:VK)(u:Se)(s':Sw):Prop:=
 ∃v H',s'.os=s.os/\AllBare s'.gens/\Un (frs outer) [] H H' s.heap s'.heap/\pA P w H' s'.heap/\RelV v u/\Q v H'
def CR(CX:zF)(outer:List Env)(P:Sg)(w:Sf)(H:Hp)(s:Sw)(Q:VK)(E:XK)(r:Result)(s':Sw):Prop:=
 match r with
 |.ok (.ret u)=>CE outer P w H s Q u s'
 |.ok _=>False
 |.error e=>CX outer H s E e s'
structure jV(P:Sg)(w:Sf)(K:Q7)(mg:Str->Option Se)(base:Sl)(CX:zF)(k:Nat)(f:Si)(fd:S7)(ps:List Str)(sp:Sp):Prop where
 len:∀vs H Q E,sp vs H Q E->vs.length=ps.length
 run:∀(A:Sv)(outer:List Env)(s:Sw)(H:Hp)(args:Args)(us:List Se)(vs:List V)(Q:VK)(E:XK),gP k A->Ce P w K mg base A outer s H->S8 s fd args (ps.zip us)->Vals vs us->sp vs H Q E->
  S0 (model P w) A (.call (.ref f) args) (CR CX outer P w H s Q E) s
def jV.mono{P:Sg}{w:Sf}{K:Q7}{mg:Str->Option Se}{base:Sl}{CX:zF}{j k:Nat}{f:Si}{fd:S7}{ps:List Str}{sp:Sp}(F:jV P w K mg base CX j f fd ps sp)(h:j<=k):
  jV P w K mg base CX k f fd ps sp:=⟨F.len,λA outer s H args us vs Q E hr=>F.run A outer s H args us vs Q E (hr.mono h)⟩
def Ce.make{P:Sg}{w:Sf}{K:Q7}{mg:Str->Option Se}{base:Sl}{A:Sv}{outer:List Env}{s:Sw}{H:Hp}(e:Ce P w K mg base A outer s H)(C:Si)(us:List Se)(kw:List (Str×Se)):
  Ce P w K mg base (A.under (.builtin "type.__call__" ⟨.ref C::us,kw⟩)) outer s H:=⟨by first|exact e.frames|(simpa [Around.under,Code.envs,Code.isFrame,pushEnvs]using e.frames),e.mod,e.bs,e.bsz,e.funs,e.frf,e.hok,e.bare⟩
section
variable{X:Cx}{pins:List (Si×Obj)}{σ:St}{H:Hp}{s s':Sw}
def Inv.env0(I:Inv X pins σ H s):Ce X.prog X.w X.K X.mg X.base X.A X.stack s H:=
 ⟨I.ok.frames,I.ok.mod,I.bs,OG I.ok.bsz I.sz,I.stack,I.stkFree,I.hok,I.bare⟩
def Inv.after{Q:VK}{u:Se}(I:Inv X pins σ H s)(h:CE X.stack X.prog X.w H s Q u s'):EP X pins σ Q u s':=by
 obtain⟨v,H',os,bare,un,hok,r,q⟩:=h;obtain⟨hh,g,d,t,os'⟩:=s';obtain rfl:os'=s.os:=os;exact⟨v,H',I.call (h':=hh) (g':=g) (d':=d) (t':=t) (ch:=[]) un hok bare (λb z=>absurd z (by simp)),r,q⟩
end
def K9(C:Si)(sp:Sp)(dvs:List V)(E:XK)(t:TA):TE:=λσ H Q=>t σ H λvs H1=>∀x dx,H1 x=none->H1 dx=none->dx≠x->
 sp (.ref x::(vs++dvs)) (upd (upd H1 dx (.own x)) x (.ins C dx [])) (λv H2=>v=.non/\Q (.ref x) H2) E
def Binds(K:Q7)(fd:S7)(ps:List Str)(ds:List Se):Prop:=
 ∀(s:Sw)(us:List Se),K.In s.heap->(us++ds).length=ps.length->S8 s fd ⟨us,[]⟩ (ps.zip (us++ds))
def Binds.all{K:Q7}{fd:S7}{ps:List Str}(h:∀us:List Se,us.length=ps.length->bindArgs fd ⟨us,[]⟩=pure (ps.zip us)):Binds K fd ps []:=λs us _ hl=>by
 rw[O5]at hl ⊢;exact .of_eq (h us hl)
def zU(CX:zF)(X:Cx)(E:XK):Prop:=∀(pins:List (Si×Obj))(σ:St)(H:Hp)(s:Sw)(e:Se)(s':Sw),Inv X pins σ H s->CX X.stack H s E e s'->X.xe e s'
section
variable{X:Cx}{CX:zF}{k:Nat}{f C:Si}{fd:S7}{ps:List Str}{sp:Sp}{dvs:List V}{ds:List Se}{E:XK}{x m:Str}{p pos apos:Pos}{e o:Sz}{es:List Sz}{ta:TE}{t:TA}
structure Mk(K:Q7)(C f:Si):Prop where
 makes:Ri K C=true
 init:Ra K (.ref C) "__init__"=some (some (.ref f))
 fn:Rb K (.ref f)=true
 kp:Rq K (.ref C)=true
def Ei{pins:List (Si×Obj)}{σ:St}{H:Hp}{s:Sw}{Q:VK}{us:List Se}{vs:List V}(M:Mk X.K C f)(F:jV X.prog X.w X.K X.mg X.base CX k f fd ps sp)(hr:gP (k+1) X.A)(hb:Binds X.K fd ps ds)(hd:Vals dvs ds)
  (hx:zU CX X E) (I:Inv X pins σ H s) (r:Vals vs us)
  (h:∀x dx,H x=none->H dx=none->dx≠x->sp (.ref x::(vs++dvs)) (upd (upd H dx (.own x)) x (.ins C dx [])) (λv H2=>v=.non/\Q (.ref x) H2) E):
  Sy (model X.prog X.w) X.A (call (.ref C) us) (EP X pins σ Q) X.xe s:=by
 have hq:=h (s.heap.objs.size+1) s.heap.objs.size (I.hok.fresh (O6 _)) (I.hok.fresh (OT _)) (OD (O2 _));have I2:=Inv.made (C:=C) I;have r2:Vals (V.ref (s.heap.objs.size+1)::(vs++dvs)) (Value.ref (s.heap.objs.size+1)::(us++ds)):=.cons rfl (r.append hd);have hl:(Value.ref (s.heap.objs.size+1)::us++ds).length=ps.length:=by
  have e:=r2.length;rw[F.len _ _ _ _ hq]at e;exact e.symm
 refine S9 (C9 (f:=f) I.kIn M.makes M.init (beq_iff_eq.mp M.fn) (Ta (F.run _ X.stack _ _ ⟨Value.ref (s.heap.objs.size+1)::us,[]⟩ (Value.ref (s.heap.objs.size+1)::(us++ds)) _ _ E (hr.make C us [])
  (I2.env0.make C us []) (hb _ (Value.ref (s.heap.objs.size+1)::us) I2.kIn hl) r2 hq) λr s' hq'=>?_))
 cases r with
 |error e=>exact hx pins σ _ _ e s' I2 hq'
 |ok fl=>
  cases fl with
  |ret u=>
   obtain⟨v,H',I3,rv,ev,q3⟩:=I2.after hq';subst ev;exact⟨rv,⟨V.ref (s.heap.objs.size+1),H',I3,rfl,q3⟩⟩
  |next=>exact False.elim hq'
  |brk=>exact False.elim hq'
  |cont=>exact False.elim hq'
def GC(M:Mk X.K C f)(F:jV X.prog X.w X.K X.mg X.base CX k f fd ps sp)(hr:gP (k+1) X.A)(hg:Gl X x)(hm:X.mg x=some (.ref C))(hb:Binds X.K fd ps ds)(hd:Vals dvs ds)(hx:zU CX X E)
  (ha:PA X (e::es) t) (hdb:(x==("__debug__":Str))=false:=by decide) (he:SA (e::es) X.env=(false,eval e X.env)::SA es X.env:=by rfl) (hpl:(backTo pos (SA es X.env)).any (·.1)=false:=by rfl):
  PE X (.Call (.Name x p) (e::es) [] pos) (K9 C sp dvs E t):=by
 intro pins s σ H Q I h;refine Tc (wK I hg hm ?_ hdb);refine Rr (h₀:=X.base) I.ok.mod.kin M.kp (eZ (ha pos pins s σ H _ I h) λus s1 ⟨vs,H1,I1,r,q⟩=>⟨I1.kIn,?_⟩) he hpl;exact Ei M F hr hb hd hx I1 r q
end
structure aX(N P:List Str)(sc:Sx):Prop where
 kind:sc.kind=.function
 co:sc.isCoroutine=false
 gen:sc.isGenerator=false
 nd:N.Nodup
 pre:N.take P.length=P
 par:∀x∈P,sc.names.lookup x=some .local\/sc.names.lookup x=some .cell
 nofree:∀y∈sc.names,y.2≠.free
def vL{kindOf:Str->Option Td}{x:Str}:∀{binds:List (Str×Se)}{m:Str->Option Se},(∀v,(x,v)∉binds)->bindL kindOf binds m x=m x
 |[],_,_=>rfl
 |(n,v)::r,m,h=>by
  unfold bindL;rw[vL λw hw=>h w (OL _ hw)];split
  ·have:x≠n:=(by rintro rfl;exact h v OJ);simp[this]
  ·rfl
def vE{kindOf:Str->Option Td}{x:Str}:∀{binds:List (Str×Se)}{m:Str->Option Se},(∀v,(x,v)∉binds)->bindC kindOf binds m x=m x
 |[],_,_=>rfl
 |(n,v)::r,m,h=>by
  unfold bindC;rw[vE λw hw=>h w (OL _ hw)];split
  ·rfl
  ·have:x≠n:=(by rintro rfl;exact h v OJ);simp[this]
def vV{kindOf:Str->Option Td}{x:Str}{v:Se}:∀{P:List Str}{vs:List Se}{i:Nat}{m:Str->Option Se},P.Nodup->P[i]?=some x->vs[i]?=some v->kindOf x=some .local->
  bindL kindOf (P.zip vs) m x=some v
 |[],_,_,_,_,h,_,_=>by simp at h
 |_::_,[],_,_,_,_,h,_=>by simp at h
 |p::P,w::vs,0,m,nd,h1,h2,hk=>by
  simp at h1 h2;subst h1;subst h2;show bindL kindOf ((p,w)::P.zip vs) m p=_;unfold bindL;rw[vL λv hv=>(List.nodup_cons.mp nd).1 (O7 hv).1,if_pos hk];simp
 |p::P,w::vs,i+1,m,nd,h1,h2,hk=>by
  show bindL kindOf ((p,w)::P.zip vs) m x=_;unfold bindL;exact vV (i:=i) (List.nodup_cons.mp nd).2 (by simpa using h1) (by simpa using h2) hk
def vj{kindOf:Str->Option Td}{x:Str}{v:Se}:∀{P:List Str}{vs:List Se}{i:Nat}{m:Str->Option Se},P.Nodup->P[i]?=some x->vs[i]?=some v->kindOf x≠some .local->
  bindC kindOf (P.zip vs) m x=some v
 |[],_,_,_,_,h,_,_=>by simp at h
 |_::_,[],_,_,_,_,h,_=>by simp at h
 |p::P,w::vs,0,m,nd,h1,h2,hk=>by
  simp at h1 h2;subst h1;subst h2;show bindC kindOf ((p,w)::P.zip vs) m p=_;unfold bindC;rw[vE λv hv=>(List.nodup_cons.mp nd).1 (O7 hv).1,if_neg hk];simp
 |p::P,w::vs,i+1,m,nd,h1,h2,hk=>by
  show bindC kindOf ((p,w)::P.zip vs) m x=_;unfold bindC;exact vj (i:=i) (List.nodup_cons.mp nd).2 (by simpa using h1) (by simpa using h2) hk
def start(N:List Str)(vs:List V):St:=vs.map some++List.replicate (N.length-vs.length) none
def kC(CX:zF)(P:Sg)(w:Sf)(K:Q7)(mg:Str->Option Se)(base:Sl)(N:List Str)(qual:Str)(scope:Sx)(f:Si)(cd:Se)(A:Sv)(outer:List Env)(s:Sw)(H:Hp)(E:XK):Cx where
 prog:=P
 w:=w
 K:=K
 mg:=mg
 base:=base
 A:=A.deeper (envOfC qual scope s.heap.objs.size f cd)
 N:=N
 s₀:=s
 H₀:=H
 env:=envOfC qual scope s.heap.objs.size f cd
 outer:=outer
 stack:=envOfC qual scope s.heap.objs.size f cd::outer
 ex:=[]
 calm:=true
 fn:=λ_=>true
 pn:=[]
 xe:=λe s'=>Sy (model P w) (A.deeper (envOfC qual scope s.heap.objs.size f cd)) (leaving (envOfC qual scope s.heap.objs.size f cd) e) (λ_ s''=>CX outer H s E e s'') (λe' s''=>CX outer H s E e' s'') s'
def zh{sc:Sx}{n:Nat}{x:Str}(h:sc.names.lookup x=some .cell):∃c,(cellsFrom n sc.names []).lookup x=some c:=by
 have q:=Rt sc.names n [] (.inl h);exact Option.isSome_iff_exists.mp q
def CZ{CX:zF}{P:Sg}{w:Sf}{K:Q7}{mg:Str->Option Se}{base:Sl}{N ps:List Str}{qual:Str}{scope:Sx}{f:Si}{cd:Se}{A:Sv}{outer:List Env}{s s1:Sw}{H:Hp}{E:XK}{us:List Se}{vs:List V}
  (S:aX N ps scope) (hd:A.handled=none) (e0:Ce P w K mg base A outer s H) (hl:vs.length=ps.length) (r:Vals vs us)
  (x:InCallC s s.heap.objs.size (bindL (envOfC qual scope s.heap.objs.size f cd).kindOf (ps.zip us) λ_=>none) (cellsFrom (s.heap.objs.size+1) scope.names []) (bindC (envOfC qual scope s.heap.objs.size f cd).kindOf (ps.zip us) λ_=>none) s1):
  Inv (kC CX P w K mg base N qual scope f cd A outer s H E) [] (start N vs) H s1:=by
 have hpl:ps.length<=N.length:=by have:=congrArg List.length S.pre;rw[O8]at this;omega
 obtain⟨h1,tk,rfl,hk⟩:=x.done;have noA:∀b:Si,b∉(kC CX P w K mg base N qual scope f cd A outer s H E).ex:=λb z=>absurd (show b∈([]:List Si)from z) (by simp);refine⟨⟨e0.mod,S.kind,rfl,rfl,OT _,λy z c h1 h2=>?_,λy hy=>?_,λy c _ h=>?_,λ_=>hd,Around.frames_deeper e0.frames,.inr ⟨rfl,rfl⟩,λb z=>absurd z (noA b),e0.bs,e0.bsz,λb _ _=>noA b,λb z=>absurd z (noA b),e0.funs,e0.frf⟩,
  rfl,e0.bare,Un.kept hk,⟨_,x.toInCall.ns,λi y v h1 h2 h3=>?_⟩,λy c h=>⟨_,x.cell y c h⟩,e0.hok.fresh (OT _),λy c h=>?_,λp hp=>absurd (show p∈([]:List (Si×Obj))from hp) (by simp),e0.hok.kept hk,?_⟩
 ·exact name_of_addr x.apart (PySem.mem_of_lookup h1) (PySem.mem_of_lookup h2)
 ·have hy:scope.names.lookup y=some .cell\/scope.names.lookup y=some .free:=hy;rcases hy with hy|hy
  ·exact zh hy
  ·exact absurd rfl (S.nofree _ (PySem.mem_of_lookup hy))
 ·exact OH (x.above y c (PySem.mem_of_lookup h))
 ·have hi:i<vs.length:=by
   unfold start at h2;by_cases hi:i<vs.length
   ·exact hi
   ·rw[O9 (by simpa using hi)]at h2;rw[Pa]at h2;split at h2<;>cases h2
  have ha:vs[i]?=some v:=by
   unfold start at h2;rw[Pb (by simpa using hi),Ph]at h2;cases e:vs[i]? with
   |none=>rw[e]at h2;cases h2
   |some a=>rw[e]at h2;cases h2;rfl
  obtain⟨u,hu,rv⟩:=r.get ha;have hp:ps[i]?=some y:=by
   rw[<-S.pre,List.getElem?_take_of_lt ‹0›];exact h1
  have ndP:ps.Nodup:=by rw[<-S.pre];exact S.nd.sublist (List.take_sublist _ _)
  refine⟨u,rv,?_⟩;rcases S.par y (Pj hp)with k|k
  ·exact .inl ⟨k,vV ndP hp hu k⟩
  ·obtain⟨c,e⟩:=zh (n:=s.heap.objs.size+1) k;refine .inr ⟨.inl k,c,e,?_⟩;have q:=x.cell y c e;rw[vj ndP hp hu (by show scope.names.lookup y≠_;rw[k];decide)]at q;exact q
 ·exact e0.hok.fresh (OH (x.above y c (PySem.mem_of_lookup h)))
 ·unfold start;show _=N.length;rw[Pk,O0,List.length_replicate];omega
def Di{CX:zF}{P:Sg}{w:Sf}{K:Q7}{mg:Str->Option Se}{base:Sl}{k:Nat}{f:Si}{name qual:Str}{params:Te}{body:List SD}{scope:Sx}{dV kV doc pm cdv ct oc:Se}{an od:Option Si}
  {osl:Array (Option Se)} {N ps:List Str} {sp:Sp} (lk:K.lookup f=some ⟨oc,od,.func (Ru name qual params body scope dV kV doc pm an cdv ct),osl⟩) (hcd:Rv K cdv qual=true) (S:aX N ps scope)
  (len:∀vs H Q E,sp vs H Q E->vs.length=ps.length)
  (hbody:∀ (A:Sv) (outer:List Env) (s:Sw) (H:Hp) (vs:List V) (Q:VK) (E:XK),gP k (A.deeper (envOfC qual scope s.heap.objs.size f cdv))->sp vs H Q E ->
   ∃t,xS (kC CX P w K mg base N qual scope f cdv A outer s H E) body t/\t {nx:=λ_ H'=>Q .non H',rt:=Q} (start N vs) H):
  jV P w K mg base CX (k+1) f (Ru name qual params body scope dV kV doc pm an cdv ct) ps sp:=by
 refine⟨len,λA outer s H args us vs Q E hr e0 hb r hsp=>?_⟩;have hl:=len _ _ _ _ hsp;have KX:K.In s.heap:=e0.mod.kin.keeps λb o e=>(e0.bs b o e).1;have lim:s.heap.NoLimit:=e0.mod.nolimit.keeps λb o e=>(e0.bs b o e).1;have hkind:∀y∈ps.zip us,scope.names.lookup y.1=some .local\/(scope.names.lookup y.1=some .cell/\((cellsFrom (s.heap.objs.size+1) scope.names []).lookup y.1).isSome=true):=λ⟨n,v⟩ hy=>by
  rcases S.par n (O7 hy).1 with q|q
  ·exact .inl q
  ·exact .inr ⟨q,Rt _ _ _ (.inl q)⟩
 refine codeAny_call_function hr.depth (KX _ _ lk) rfl S.co S.gen rfl (PySem.W.codeRec_of KX hcd) (hb _ _ _ _ ?_);refine wpAny_newFunctionEnv_cells S.kind hkind λenv he s1 x=>?_;subst he;refine⟨lim.keeps x.toInCall.keep,codeAny_func ?_⟩;obtain⟨t,ht,hq⟩:=hbody A outer s H vs Q E (hr.deeper _) hsp;have I:Inv (kC CX P w K mg base N qual scope f cdv A outer s H E) [] (start N vs) H s1:=CZ S hr.hd e0 hl r x;refine SE (ht [] s1 (start N vs) H _ I hq) (λfl s' hs=>?_) λe s' hs=>hs;have fin:∀{σ':St}{H':Hp}{v:V}{u:Se},Inv (kC CX P w K mg base N qual scope f cdv A outer s H E) [] σ' H' s'->RelV v u->Q v H'->CE outer P w H s Q u s':=
  λ{σ' H' v u} J rv q=>⟨v,H',J.os,J.bare,J.base,J.hok,rv,q⟩
 cases fl with
 |ret u=>
  obtain⟨v,σ',H',J,rv,q⟩:=hs;exact fin J rv q
 |next=>
  obtain⟨σ',H',J,q⟩:=hs;exact fin (v:=V.non) (u:=Value.none) J rfl q
 |brk=>
  obtain⟨_,_,_,q⟩:=hs;exact False.elim q
 |cont=>
  obtain⟨_,_,_,q⟩:=hs;exact False.elim q
section
variable{X:Cx}{x:Str}{p pos:Pos}{e:Sz}{es:List Sz}{t:TA}{id T:String}{r:List V->Hp->VK->Prop}
def Ml(r:List V->Hp->VK->Prop)(t:TA):TE:=λσ H Q=>t σ H λvs H1=>r vs H1 Q
def yY(hc:eR X (.builtin id) r)(hg:Gl X x)(hm:X.mg x=none)(hv:Su x=some (.builtin id))(ha:PA X (e::es) t)(hn:x≠"__name__":=by decide)(hdb:(x==("__debug__":Str))=false:=by decide)
  (he:SA (e::es) X.env=(false,eval e X.env)::SA es X.env:=by rfl) (hpl:(backTo pos (SA es X.env)).any (·.1)=false:=by rfl):PE X (.Call (.Name x p) (e::es) [] pos) (Ml r t):=by
 intro pins s σ H Q I h;refine Tc (nn I hg hm hv ?_ hn hdb);exact PyProof.Rows.callWith_builtin1 (eZ (ha pos pins s σ H _ I h) λus s1 ⟨vs,H1,I1,r1,q1⟩=>hc pins s1 σ H1 vs us Q I1 r1 q1) he hpl
def Ck(hc:eR X (.type T) r)(hg:Gl X x)(hm:X.mg x=none)(hv:Su x=some (.type T))(ha:PA X (e::es) t)(hn:x≠"__name__":=by decide)(hdb:(x==("__debug__":Str))=false:=by decide)
  (he:SA (e::es) X.env=(false,eval e X.env)::SA es X.env:=by rfl) (hpl:(backTo pos (SA es X.env)).any (·.1)=false:=by rfl):PE X (.Call (.Name x p) (e::es) [] pos) (Ml r t):=by
 intro pins s σ H Q I h;refine Tc (nn I hg hm hv ?_ hn hdb);exact RU (eZ (ha pos pins s σ H _ I h) λus s1 ⟨vs,H1,I1,r1,q1⟩=>hc pins s1 σ H1 vs us Q I1 r1 q1) he hpl
end
end L2
namespace HT
open PySem PyProof.Rows
def KU(A:Sv)(s:Sw)(a:Int)(t:Tok)(c:Int)(u:Tok)(prog:Sg)(w:Sf)(E:Se->Sw->Prop)(Q:Se->Sw->Prop)(h:Q (.bool (decide (a<c))) s):
  Sy (model prog w) A (richCompare .Lt (.int a t) (.int c u)) Q E s:=
 (PyProof.Rows.lt_int h:Sy (model prog w) A (SV .Lt (.int a t) (.int c u)) Q E s)
section
open PySem.SeqAt
open PySem.AutoSeq1 (wpAny_loadPart')
open PySem.MeetsSeq PySem.MeetsSeq2 PySem.MeetsSeq3
end
section
variable{prog:Sg}{w:Sf}{A:Sv}{E:Se->Sw->Prop}{s:Sw}
def LW{t b:Si}{vs ws:List Se}{Q:Se->Sw->Prop}(ht:Sq s.heap t vs.toArray)(hb:Sq s.heap b ws.toArray)(hv:vs≠[])
  (h1:ws=[]->Q (.ref t) s) (h2:ws≠[]->Q (.ref s.heap.objs.size) {s with heap:=s.heap.push {cls:=.type "tuple",data:=.seq (vs++ws).toArray}})
  (hsz:vs.length+ws.length<=Sn):Sy (model prog w) A (SU .Add (.ref t) (.ref b)) Q E s:=by
 obtain⟨⟨cls,dd,data,sl⟩,ho,hc,n,hd⟩:=id ht;obtain⟨⟨cls2,dd2,data2,sl2⟩,ho2,hc2,n2,hd2⟩:=id hb;simp only at hc hd hc2 hd2;subst hc hd hc2 hd2;have e:vs.toArray++ws.toArray=(vs++ws).toArray:=by simp
 by_cases hw:ws=[]
 ·exact Tf ⟨_,ho,rfl⟩ ⟨_,ho2,rfl⟩ Tg Th R8 R9 (Sa _ _)
   (tuple_addW1 t b vs.toArray ws.toArray n n2 dd dd2 sl sl2 (by simpa using hv) (by simp[hw])) ⟨ho,ho2,h1 hw⟩
 ·refine Tf ⟨_,ho,rfl⟩ ⟨_,ho2,rfl⟩ Tg Th R8 R9 (Sa _ _)
   (tuple_addW2 t b vs.toArray ws.toArray n n2 dd dd2 sl sl2 (by simpa using hv) (by simpa using hw) (by rw[OW,OW];exact hsz)) ⟨ho,ho2,?_⟩
  rw[e];exact h2 hw
def sIx(n d:Nat):Option Int->Nat
 |none=>d
 |some v=>if v<0 then(v+(n:Int)).toNat else min v.toNat n
theorem Lg(n d:Nat):sIx n d none=d:=rfl
def LZ(n d k:Nat):sIx n d (some (k:Int))=min k n:=by
 show(if(k:Int)<0 then((k:Int)+(n:Int)).toNat else min (k:Int).toNat n)=min k n;rw[if_neg ‹0›,Pl]
def Jf(n d:Nat)(hd:d<=n)(o:Option Int):sIx n d o<=n:=by
 cases o with
 |none=>exact hd
 |some v=>
  show(if v<0 then(v+(n:Int)).toNat else min v.toNat n)<=n;by_cases hv:v<0
  ·rw[if_pos hv];omega
  ·rw[if_neg hv];exact Nat.min_le_right _ _
def AA(v:Int)(n d:Nat):(if v<0 then max (v+(n:Int)) 0 else min v (n:Int))=((sIx n d (some v):Nat):Int):=by
 show(if v<0 then max (v+(n:Int)) 0 else min v (n:Int))=(((if v<0 then(v+(n:Int)).toNat else min v.toNat n):Nat):Int)
 by_cases hv:v<0
 ·simp only[if_pos hv];omega
 ·simp only[if_neg hv];omega
def Aj(lo hi:Option Int)(n:Nat):Builtin.Slice.sliceAdjust lo hi 1 (n:Int)=(((sIx n 0 lo:Nat):Int),((sIx n n hi:Nat):Int)):=by
 have h1:¬((1:Int)<0):=by omega
 unfold Builtin.Slice.sliceAdjust;simp only[h1,if_false];refine Prod.ext ?_ ?_
 ·cases lo with
  |none=>rfl
  |some v=>exact AA v n 0
 ·cases hi with
  |none=>rfl
  |some v=>exact AA v n n
def zY(i j:Nat):Builtin.Slice.slicePlaces (i:Int) (j:Int) 1=j-i:=by
 unfold Builtin.Slice.slicePlaces;have h1:(1:Int)>0:=by omega
 simp only[h1,if_true,Int.ediv_one];split<;>omega
def tM{v:Se}{o:Option Int}{Q:Option Int->Sw->Prop}(p:Ti v o)(h:Q o s):Sy (model prog w) A (Builtin.Slice.slicePartIndex v) Q E s:=by
 cases p with
 |none=>exact slicePart_none h
 |int i t=>exact slicePart_int h
def qg{sl:Si}{vl vu:Se}{lo hi:Option Int}{n:Nat}{Q:Int×Int×Nat->Sw->Prop}(hs:s.heap.IsSliceOf sl vl vu .none)(pl:Ti vl lo)(pu:Ti vu hi)
  (h:Q (((sIx n 0 lo:Nat):Int),1,sIx n n hi-sIx n 0 lo) s):Sy (model prog w) A (Builtin.Slice.sliceApplied (.ref sl) (pure (n:Int))) Q E s:=by
 obtain⟨os,hos,hcs,hds⟩:=id hs;unfold Builtin.Slice.sliceApplied Builtin.Slice.sliceFields;refine SK (SK (Tj hos hds (x:=vl) rfl (SK (Tj hos hds (x:=vu) rfl (SK (Tj hos hds (x:=.none) rfl (SJ ?_)))))));refine SK (slicePart_none ?_);show Sy _ _ (if((1:Int)==0)=true then _ else _) _ _ s;rw[if_neg (by decide)];refine SK (tM pl (SK (tM pu (SK (SJ ?_)))));show Sy _ _ (match Builtin.Slice.sliceAdjust lo hi 1 (n:Int)with|(lo,hi)=>pure (lo,(1:Int),Builtin.Slice.slicePlaces lo hi 1)) _ _ s;rw[Aj lo hi n];show Sy _ _ (pure (((sIx n 0 lo:Nat):Int),(1:Int),Builtin.Slice.slicePlaces ((sIx n 0 lo:Nat):Int) ((sIx n n hi:Nat):Int) 1)) _ _ s;rw[zY];exact SJ h
def DG(xs:Array Se)(i k:Nat):((List.range k).filterMap λ(m:Nat)=>xs[((i:Int)+(m:Int)*1).toNat]?).toArray=((xs.toList.drop i).take k).toArray:=by
 have e:(λ(m:Nat)=>xs[((i:Int)+(m:Int)*1).toNat]?)=λm=>xs[i+m]?:=by
  funext m
  have:((i:Int)+(m:Int)*1).toNat=i+m:=by omega
  rw[this]
 rw[e]
 have:=pick_run xs i k
 rw[List.filterMap_map]at this;have e2:((λx=>xs[x]?)∘λx=>i+x)=λm=>xs[i+m]?:=rfl;rw[e2]at this;rw[this]
def A7{t sl:Si}{items:Array Se}{vl vu:Se}{lo hi:Option Int}{Q:Se->Sw->Prop}(ht:Sq s.heap t items)(hs:s.heap.IsSliceOf sl vl vu .none)(pl:Ti vl lo)(pu:Ti vu hi)
  (hw:¬(sIx items.size 0 lo=0/\sIx items.size items.size hi=items.size))
  (h:Q (.ref s.heap.objs.size) {s with heap:=s.heap.push {cls:=.type "tuple",data:=.seq ((items.toList.drop (sIx items.size 0 lo)).take (sIx items.size items.size hi-sIx items.size 0 lo)).toArray}})
  (hsz:items.size<=Sn):Sy (model prog w) A (getItem (.ref t) (.ref sl)) Q E s:=by
 have htake:sizeOk (.seq ((items.toList.drop (sIx items.size 0 lo)).take (sIx items.size items.size hi-sIx items.size 0 lo)).toArray):=by
  show((items.toList.drop (sIx items.size 0 lo)).take (sIx items.size items.size hi-sIx items.size 0 lo)).toArray.size<=Sn;rw[OW,O8,Pm,Array.length_toList];omega
 have hj:sIx items.size items.size hi<=items.size:=Jf _ _ (OT _) hi;obtain⟨os,hos,hcs,hds⟩:=id hs;have hTs:s.TypeIs (.ref sl) "slice":=⟨os,hos,hcs⟩
 unfold getItem
 try with_reducible refine Tl ?_
 first|refine SK (SJ ?_)|skip
 refine SK (wpAny_sequenceKey ht.typeIs (by decide) ?_);refine SK (Tn (name:=Str.ofString "__getitem__") ht.typeIs RV
  (To RV ht.typeIs entry_tuple_getitem ?_ (args_tuple_getitem _ _)))
 show Sy _ _ (Builtin.Tuple.tupleItemsOf (.ref t) >>= _) _ _ s;refine SK (tupleItemsOf_ ht ?_);refine SK (Tp hTs ?_);rw[if_pos (by decide)];refine SK (qg hs pl pu ?_);have hno:¬((((sIx items.size 0 lo:Nat):Int)==0&&(1:Int)==1&&(sIx items.size items.size hi-sIx items.size 0 lo)==items.size)=true):=by
  intro q;rw[Pn,Pn]at q;have q1:((sIx items.size 0 lo:Nat):Int)=0:=eq_of_beq q.1.1;have q2:sIx items.size items.size hi-sIx items.size 0 lo=items.size:=eq_of_beq q.2;exact hw ⟨by omega,by omega⟩
 show Sy _ _ (if(((sIx items.size 0 lo:Nat):Int)==0&&(1:Int)==1&&(sIx items.size items.size hi-sIx items.size 0 lo)==items.size)=true then _ else _) _ _ s;rw[if_neg hno,DG]
 first
  |exact SK (m:=Builtin.Tuple.tupleExact _) (Tq (SJ ⟨_,rfl,SJ h⟩) htake)
  |exact SK (m:=Builtin.Tuple.tupleExact _) (Tq (SK (SJ (SJ ⟨_,rfl,SJ h⟩))) htake)
  |exact SK (SK (m:=Builtin.Tuple.tupleExact _) (Tq (SJ (SJ ⟨_,rfl,SJ h⟩)) htake))
  |exact SK (SK (m:=Builtin.Tuple.tupleExact _) (Tq (SJ ⟨_,rfl,SJ h⟩) htake))
end
end HT
namespace L2
open PySem PySem.Spec PyProof.Rows
abbrev TO:=St->Hp->(Option Int->Hp->Prop)->Prop
def PO(X:Cx)(e:Option Sz)(t:TO):Prop:=
 ∀(pins:List (Si×Obj))(s:Sw)(σ:St)(H:Hp)(Q:Option Int->Hp->Prop),Inv X pins σ H s->t σ H Q->
  Sy (model X.prog X.w) X.A (evalPart e X.env) (λu s'=>∃o H',Inv X pins σ H' s'/\Ti u o/\Q o H') X.xe s
def GX:TO:=λ_ H Q=>Q none H
def Kq(t:TE):TO:=λσ H Q=>t σ H λx H1=>∃i,x=.int i/\Q (some i) H1
section
variable{X:Cx}{e:Sz}{te:TE}{lo hi:Option Sz}{tl th:TO}{pos p2:Pos}
def Gj:PO X none GX:=by
 intro pins s σ H Q I h;rw[Tr];exact SJ ⟨none,H,I,.none,h⟩
def Gr(h:PE X e te):PO X (some e) (Kq te):=by
 intro pins s σ H Q I hw;rw[evalPart_some];refine eZ (h pins s σ H _ I hw) λu s1 ⟨x,H1,I1,r1,q1⟩=>?_;obtain⟨i,rfl,q⟩:=q1;obtain⟨t,rfl⟩:=r1;exact⟨some i,H1,I1,.int i t,q⟩
def L7(X:Cx)(r:V->Option Int->Option Int->Hp->VK->Prop):Prop:=
 ∀(pins:List (Si×Obj))(s:Sw)(σ:St)(H:Hp)(x:V)(v vl vu:Se)(lo hi:Option Int)(sl:Si)(Q:VK),Inv X pins σ H s->RelV x v->s.heap.IsSliceOf sl vl vu .none->Ti vl lo->Ti vu hi->r x lo hi H Q->
  ∃T id,typeLookup (.type T) "__getitem__"=pure (some (.builtin id))/\s.TypeIs v T/\Sy (model X.prog X.w) X.A (getItem v (.ref sl)) (EP X pins σ Q) X.xe s
def Oq(r:V->Option Int->Option Int->Hp->VK->Prop)(te:TE)(tl th:TO):TE:=λσ H Q=>te σ H λx H1=>tl σ H1 λl H2=>th σ H2 λu H3=>r x l u H3 Q
def EJ{r:V->Option Int->Option Int->Hp->VK->Prop}(hr:L7 X r)(he:PE X e te)(hl:PO X lo tl)(hu:PO X hi th):PE X (.Subscript e (.Slice lo hi none p2) pos) (Oq r te tl th):=by
 intro pins s σ H Q I h;refine Ts (eZ (he pins s σ H _ I h) λv s1 ⟨x,H1,I1,r1,q1⟩=>?_);refine wpAny_Slice (eZ (hl pins s1 σ H1 _ I1 q1) λvl s2 ⟨l,H2,I2,pl,q2⟩=>eZ (hu pins s2 σ H2 _ I2 q2) λvu s3 ⟨u,H3,I3,pu,q3⟩=>?_);rw[Tr];refine SJ ?_;have I4:Inv X pins σ H3 {s3 with heap:=s3.heap.push {cls:=.type "slice",data:=.fields #[vl,vu,.none]}}:=I3.kept (t':=s3.toks) λb ob q=>RL _ q;obtain⟨T,id,hT,ht,hg⟩:=hr pins {s3 with heap:=s3.heap.push {cls:=.type "slice",data:=.fields #[vl,vu,.none]}} σ H3 x v vl vu l u s3.heap.objs.size Q I4 r1 (Heap.IsSliceOf.new ..) pl pu q3;show Sy (model X.prog X.w) X.A (subscriptTail e (.Slice lo hi none p2) v (.ref s3.heap.objs.size)) (EP X pins σ Q) X.xe {s3 with heap:=s3.heap.push {cls:=.type "slice",data:=.fields #[vl,vu,.none]}};exact tail_any (ops:=[.ref s3.heap.objs.size,v]) ht hT hg (by with_unfolding_all rfl)
def yr(xs:List V)(lo hi:Option Int):List V:=(xs.drop (HT.sIx xs.length 0 lo)).take (HT.sIx xs.length xs.length hi-HT.sIx xs.length 0 lo)
def rp(xs:List V)(lo hi:Option Int):(yr xs lo hi).length<=xs.length:=by
 unfold yr;rw[O8,Pm];omega
def MT(K:Q7):V->Option Int->Option Int->Hp->VK->Prop:=λx lo hi H Q=>∃a xs,x=.ref a/\qv K H a xs/\
 ¬(HT.sIx xs.length 0 lo=0/\HT.sIx xs.length xs.length hi=xs.length)/\∀p,H p=none->Q (.ref p) (upd H p (.tup (yr xs lo hi)))
def Ii:L7 X (MT X.K):=by
 intro pins s σ H x v vl vu lo hi sl Q I rx hs pl pu h;obtain⟨a,xs,rfl,hx,hw,q⟩:=h;cases rx;obtain⟨its,r,ht,hz⟩:=I.tuple hx;have hlen:its.toArray.size=xs.length:=by rw[OW];exact r.length.symm
 refine⟨"tuple",_,PyProof.Rows.slot_tuple_getitem.lookup,ht.typeIs,?_⟩;refine HT.A7 ht hs pl pu (by rw[hlen];exact hw) ?_ (by rw[hlen];exact hz);rw[hlen];refine⟨.ref s.heap.objs.size,_,I.laid (t':=s.toks) (o:=.tup (yr xs lo hi)) (λb ob q=>RL _ q) (OT _) ?_,rfl,q _ (I.hok.fresh (OT _))⟩;exact⟨OG (rp xs lo hi) hz,_,(r.drop (HT.sIx xs.length 0 lo)).take (HT.sIx xs.length xs.length hi-HT.sIx xs.length 0 lo),IsTup.new _ _⟩
def K2(K:Q7):R2:=λx y H Q=>∃a b xs ys,x=.ref a/\y=.ref b/\qv K H a xs/\qv K H b ys/\xs≠[]/\xs.length+ys.length<=Sn/\
 (ys=[]->Q (.ref a) H)/\(ys≠[]->∀p,H p=none->Q (.ref p) (upd H p (.tup (xs++ys))))
def Vals.nil_iff{xs:List V}{us:List Se}(r:Vals xs us):us=[]↔xs=[]:=by
 cases r with
 |nil=>simp
 |cons _ _=>simp
def FJ:kA X (SU .Add) (K2 X.K):=by
 intro pins s σ H x y v u Q I rx ry h;obtain⟨a,b,xs,ys,rfl,rfl,ha,hb,hx,hz,q1,q2⟩:=h;cases rx;cases ry;obtain⟨its,r1,p1,_⟩:=I.tuple ha;obtain⟨its2,r2,p2,_⟩:=I.tuple hb;refine HT.LW p1 p2 (λz=>hx (r1.nil_iff.mp z)) (λz=>⟨.ref a,H,I,rfl,q1 (r2.nil_iff.mp z)⟩) (λz=>?_) (by rw[<-r1.length,<-r2.length];exact hz);refine⟨.ref s.heap.objs.size,_,I.laid (t':=s.toks) (o:=.tup (xs++ys)) (λb ob q=>RL _ q) (OT _) ?_,rfl,q2 (λw=>z (r2.nil_iff.mpr w)) _ (I.hok.fresh (OT _))⟩;exact⟨by rw[Pk];exact hz,_,r1.append r2,IsTup.new _ _⟩
end
def Fk(n:Nat)(i:Int):Option Nat:=if 0<=i then(if i<n then some i.toNat else none)else if -(n:Int)<=i then some (i+n).toNat else none
def o8{α:Type}(xs:List α)(i:Int):Option α:=(Fk xs.length i).bind λj=>xs[j]?
def Fz{n:Nat}{i:Int}{j:Nat}(h:Fk n i=some j):seqIndex? i n=some j/\j<n/\-(n:Int)<=i/\i<n:=by
 unfold Fk at h;by_cases h0:0<=i
 ·rw[if_pos h0]at h;by_cases h1:i<n
  ·rw[if_pos h1]at h;have e:i.toNat=j:=Option.some.inj h;exact⟨by rw[seqIndex_of h0 h1,e],by omega,by omega,h1⟩
  ·rw[if_neg h1]at h;cases h
 ·rw[if_neg h0]at h;by_cases h1:-(n:Int)<=i
  ·rw[if_pos h1]at h;have e:(i+n).toNat=j:=Option.some.inj h;exact⟨by rw[seqIndex_neg ‹0› h1,e],by omega,h1,by omega⟩
  ·rw[if_neg h1]at h;cases h
def xE{α:Type}{xs:List α}{i:Int}{v:α}(h:o8 xs i=some v):∃j,seqIndex? i xs.length=some j/\xs[j]?=some v/\j<xs.length/\-(xs.length:Int)<=i/\i<xs.length:=by
 unfold o8 at h;cases e:Fk xs.length i with
 |none=>rw[e]at h;cases h
 |some j=>
  rw[e]at h;obtain⟨h1,h2,h3,h4⟩:=Fz e;exact⟨j,h1,h,h2,h3,h4⟩
def En{α:Type}(xs:List α)(v:α):o8 (xs++[v]) (-1)=some v:=by
 have hl:(xs++[v]).length=xs.length+1:=by simp
 have e:Fk (xs++[v]).length (-1)=some xs.length:=by
  unfold Fk;rw[hl,if_neg (by decide),if_pos ‹0›];congr 1;omega
 unfold o8;rw[e];show(xs++[v])[xs.length]?=some v;simp
def xr(b:Sz):Prop:=∀o i,subscripted b false o i=operate [o,i] (getItem o i)
def K1(X:Cx)(r:R2):Prop:=
 ∀(value slice:Sz)(pins:List (Si×Obj))(s:Sw)(σ:St)(H:Hp)(x y:V)(v u:Se)(Q:VK),Inv X pins σ H s->RelV x v->RelV y u->r x y H Q->
  subscripted slice false v u=operate [v,u] (getItem v u)->Sy (model X.prog X.w) X.A (subscriptTail value slice v u) (EP X pins σ Q) X.xe s
def Om(X:Cx)(id:String)(r:V->List V->Hp->VK->Prop):Prop:=
 ∀(pins:List (Si×Obj))(s:Sw)(σ:St)(H:Hp)(x:V)(xs:List V)(v:Se)(us:List Se)(Q:VK),Inv X pins σ H s->RelV x v->Vals xs us->r x xs H Q->
  Sy (model X.prog X.w) X.A (call (.builtin id) (v::us)) (EP X pins σ Q) X.xe s
section
variable{X:Cx}{a b:Sz}{ta tb:TE}{pos:Pos}
def Ko{r:R2}(hr:K1 X r)(ha:PE X a ta)(hb:PE X b tb)(hs:xr b):PE X (.Subscript a b pos) (JV r ta tb):=by
 intro pins s σ H Q I h;exact Ts (IQ ha hb I h λv u s2 x y H2 I2 rx ry q=>hr a b pins s2 σ H2 x y v u Q I2 rx ry q (hs _ _))
def Mw(K:Q7):R2:=λx y H Q=>∃p xs i v,x=.ref p/\y=.int i/\o9 K H p xs/\o8 xs i=some v/\Q v H
def MZ(K:Q7):R2:=λx y H Q=>∃p xs i v,x=.ref p/\y=.int i/\qv K H p xs/\o8 xs i=some v/\Q v H
def Ni:R2:=λx y H Q=>∃z i c,x=.str z/\y=.int i/\z.length<=Sn/\o8 z.cps.toList i=some c/\Q (.str ⟨#[c]⟩) H
def GU:K1 X (Mw X.K):=by
 intro value slice pins s σ H x y v u Q I rx ry h hs;obtain⟨p,xs,i,z,rfl,rfl,hq,he,q⟩:=h;cases rx;obtain⟨t,rfl⟩:=ry;obtain⟨its,r,pl,hz⟩:=I.list hq;obtain⟨j,h1,h2,h3,h4,h5⟩:=xE he;obtain⟨w,ew,rw'⟩:=r.get h2;have hl:=r.length;have hn:=qF;have fin:EP X pins σ Q w s:=⟨z,H,I,rw',q⟩
 by_cases h0:0<=i
 ·have hj:i.toNat=j:=by
   rw[seqIndex_of h0 h5]at h1;exact Option.some.inj h1
  exact item_listR pl.isList h0 ‹0› (by rw[hj];simpa using ew) fin hs
 ·have hj:(i+(its.toArray.size:Int)).toNat=j:=by
   rw[seqIndex_neg ‹0› h4]at h1;rw[OW,<-hl];exact Option.some.inj h1
  exact subscriptTail_builtinR (x:=w) pl.isList.typeIs slot_list_getitem.lookup
   (wpAny_getItem_list_neg (Q:=λr s'=>r=w/\EP X pins σ Q r s') pl.isList ‹0› (by rw[OW]<;>omega) ‹0› (by rw[hj];simpa using ew) ⟨rfl,fin⟩) hs
def Js:K1 X (MZ X.K):=by
 intro value slice pins s σ H x y v u Q I rx ry h hs;obtain⟨p,xs,i,z,rfl,rfl,hq,he,q⟩:=h;cases rx;obtain⟨t,rfl⟩:=ry;obtain⟨its,r,pl,hz⟩:=I.tuple hq;obtain⟨j,h1,h2,h3,h4,h5⟩:=xE he;obtain⟨w,ew,rw'⟩:=r.get h2;have hl:=r.length;have hn:=qF;have fin:EP X pins σ Q w s:=⟨z,H,I,rw',q⟩
 exact subscriptTail_builtinR (x:=w) pl.typeIs slot_tuple_getitem.lookup
  (getItem_tuple (j:=j) (Q:=λr s'=>r=w/\EP X pins σ Q r s') pl ‹0› ‹0› (by rw[OW,<-hl];exact h1) (by simpa using ew) ⟨rfl,fin⟩) hs
def HN:K1 X Ni:=by
 intro value slice pins s σ H x y v u Q I rx ry h hs;obtain⟨z,i,c,rfl,rfl,hz,he,q⟩:=h;obtain⟨t,rfl⟩:=rx;obtain⟨t',rfl⟩:=ry;obtain⟨j,h1,h2,h3,h4,h5⟩:=xE he;have hl:z.cps.toList.length=z.length:=by simp[Str.length]
 rw[hl]at h1 h4 h5;have hn:=qF;exact tail_any (typeIs_str s z t) slot_str_getitem.lookup (getItem_str (c:=c) (by
  have e1:decide (i < -(2^63:Int))=false:=decide_eq_false ‹0›;have e2:decide (i>=2^63)=false:=decide_eq_false ‹0›;rw[e1,e2,Bool.or_false]) (by rw[h1];simpa using h2) ⟨.str ⟨#[c]⟩,H,I.tok _,⟨_,rfl⟩,q⟩) hs
def xj(lo hi:Option Int)(n:Nat):(sliceBounds lo hi none n).1=((HT.sIx n 0 lo:Nat):Int)/\(sliceBounds lo hi none n).2.1=((HT.sIx n n hi:Nat):Int)/\(sliceBounds lo hi none n).2.2=1:=by
 refine⟨?_,?_,rfl⟩
 ·cases lo with
  |none=>simp[sliceBounds,HT.sIx]
  |some i=>
   simp only[sliceBounds,HT.sIx,Pp,show(1:Int)>0 by decide,if_true];by_cases h:i<0
   ·simp only[h,if_true]<;>omega
   ·simp only[h,if_false]<;>omega
 ·cases hi with
  |none=>simp[sliceBounds,HT.sIx]
  |some i=>
   simp only[sliceBounds,HT.sIx,Pp,show(1:Int)>0 by decide,if_true];by_cases h:i<0
   ·simp only[h,if_true]<;>omega
   ·simp only[h,if_false]<;>omega
def uR(its:List Se)(lo hi:Option Int):slicePick its.toArray lo hi none=((its.drop (HT.sIx its.length 0 lo)).take (HT.sIx its.length its.length hi-HT.sIx its.length 0 lo)).toArray:=by
 obtain⟨h1,h2,h3⟩:=xj lo hi its.toArray.size;unfold slicePick;rw[h1,h2,h3];simp only[sliceRange_one,pick_run,OW]<;>rfl
def Nz(K:Q7):V->Option Int->Option Int->Hp->VK->Prop:=λx lo hi H Q=>∃a xs,x=.ref a/\o9 K H a xs/\∀p,H p=none->Q (.ref p) (upd H p (.lst (yr xs lo hi)))
def FD:L7 X (Nz X.K):=by
 intro pins s σ H x v vl vu lo hi sl Q I rx hs pl pu h;obtain⟨a,xs,rfl,hx,q⟩:=h;cases rx;obtain⟨its,r,ht,hz⟩:=I.list hx;have hlen:=r.length;refine⟨"list",_,slot_list_getitem.lookup,ht.isList.typeIs,?_⟩;refine wpAny_getItem_list_slice ht.isList hs pl pu .none (by simp) ?_ (by rw[OW]<;>omega);rw[uR,<-hlen];refine⟨.ref s.heap.objs.size,_,I.laid (t':=s.toks) (o:=.lst (yr xs lo hi)) (λb ob q=>RL _ q) (OT _) ?_,rfl,q _ (I.hok.fresh (OT _))⟩;exact⟨OG (rp xs lo hi) hz,_,0,(r.drop (HT.sIx xs.length 0 lo)).take (HT.sIx xs.length xs.length hi-HT.sIx xs.length 0 lo),RM _ rfl⟩
def Ej:V->Bool
 |.non=>true
 |.bl _=>true
 |.int _=>true
 |.str _=>true
 |_=>false
def MU:V->V->Bool
 |.non,.non=>true
 |.bl a,.bl b=>a==b
 |.bl a,.int b=>(if a then 1 else 0)==b
 |.int a,.bl b=>a==(if b then 1 else 0)
 |.int a,.int b=>a==b
 |.str a,.str b=>a==b
 |_,_=>false
def Il{A:Sv}{s:Sw}{y x:V}{u v:Se}(ry:RelV y u)(rx:RelV x v)(fy:Ej y=true)(fx:Ej x=true):SeqAt.EqAt A s u v (MU y x):=by
 cases y with
 |non=>
  cases ry;cases x with
  |non=>cases rx;exact SeqAt.EqAt.same _
  |bl b=>cases rx;exact SeqAt.EqAt.none_bool b
  |int b=>obtain⟨t,rfl⟩:=rx;exact SeqAt.EqAt.none_int b t
  |str b=>obtain⟨t,rfl⟩:=rx;exact SeqAt.EqAt.none_str b t
  |_=>exact absurd (show false=true from fx) OX
 |bl a=>
  cases ry;cases x with
  |non=>cases rx;exact SeqAt.EqAt.bool_none a
  |bl b=>cases rx;exact SeqAt.EqAt.bool_bool a b
  |int b=>obtain⟨t,rfl⟩:=rx;exact SeqAt.EqAt.bool_int a b t
  |str b=>obtain⟨t,rfl⟩:=rx;exact SeqAt.EqAt.bool_str a b t
  |_=>exact absurd (show false=true from fx) OX
 |int a=>
  obtain⟨t',rfl⟩:=ry;cases x with
  |non=>cases rx;exact SeqAt.EqAt.int_none a t'
  |bl b=>cases rx;exact SeqAt.EqAt.int_bool a t' b
  |int b=>obtain⟨t,rfl⟩:=rx;exact SeqAt.EqAt.int_int a t' b t
  |str b=>obtain⟨t,rfl⟩:=rx;exact SeqAt.EqAt.int_str a t' b t
  |_=>exact absurd (show false=true from fx) OX
 |str a=>
  obtain⟨t',rfl⟩:=ry;cases x with
  |non=>cases rx;exact SeqAt.EqAt.str_none a t'
  |bl b=>cases rx;exact SeqAt.EqAt.str_bool a t' b
  |int b=>obtain⟨t,rfl⟩:=rx;exact SeqAt.EqAt.str_int a t' b t
  |str b=>obtain⟨t,rfl⟩:=rx;exact SeqAt.EqAt.str_str a t' b t
  |_=>exact absurd (show false=true from fx) OX
 |_=>exact absurd (show false=true from fy) OX
def pX:eR X (.builtin "len") (λxs H Q=>∃p ys,xs=[.ref p]/\(o9 X.K H p ys\/qv X.K H p ys)/\Q (.int ys.length) H):=by
 intro pins s σ H xs us Q I r h;obtain⟨p,ys,rfl,hq,q⟩:=h;obtain⟨u,rfl,rx⟩:=vals1 r;cases rx;have hn:=qF;rcases hq with hq|hq
 ·obtain⟨its,r',pl,hz⟩:=I.list hq;have hlen:=r'.length;exact Calls.call_len_list pl.isList (by simp only[OW]<;>omega) ⟨.int ys.length,H,I.tok _,⟨s.toks+1,by rw[OW,hlen]⟩,q⟩
 ·obtain⟨its,r',pl,hz⟩:=I.tuple hq;have hlen:=r'.length;exact len_tuple pl (by simp only[OW]<;>omega) ⟨.int ys.length,H,I.tok _,⟨s.toks+1,by rw[OW,hlen]⟩,q⟩
def wQ:eR X (.builtin "len") (λxs H Q=>∃z,xs=[.str z]/\z.length<=Sn/\Q (.int z.length) H):=by
 intro pins s σ H xs us Q I r h;obtain⟨z,rfl,hz,q⟩:=h;obtain⟨u,rfl,t,rfl⟩:=vals1 r;have hn:=qF;exact len_str ‹0› ⟨.int z.length,H,I.tok _,⟨_,rfl⟩,q⟩
def pH:eR X (.type "list") (λxs H Q=>∃p ys,xs=[.ref p]/\(o9 X.K H p ys\/qv X.K H p ys)/\∀l,H l=none->Q (.ref l) (upd H l (.lst ys))):=by
 intro pins s σ H xs us Q I r h;obtain⟨p,ys,rfl,hq,q⟩:=h;obtain⟨u,rfl,rx⟩:=vals1 r;cases rx;have fin:∀(its:List Se),Vals ys its->ys.length<=Sn->∀(h':Sl)(c':Nat),(∀b o',s.heap.get? b=some o'->h'.get? b=some o')->
   h'.get? s.heap.objs.size=some {cls:=.type "list",dict:=none,data:=.seq its.toArray c',slots:=#[]}->EP X pins σ Q (.ref s.heap.objs.size) {s with heap:=h'}:=λits r' hz h' c' kp e=>
  ⟨.ref s.heap.objs.size,_,I.laid (t':=s.toks) kp (OT _) (show dq X.prog X.w _ h' _ (.lst ys)from⟨hz,its,c',r',e⟩),rfl,q _ (I.hok.fresh (OT _))⟩
 rcases hq with hq|hq
 ·obtain⟨its,r',pl,hz⟩:=I.list hq;have hlen:=r'.length;obtain⟨o,ho,hc,n,hd⟩:=pl.isList;exact call_list_seq p (.inl rfl) ho hc hd (λh' c' kp e=>fin its r' hz h' c' kp e) (by simp only[OW]<;>omega)
 ·obtain⟨its,r',pl,hz⟩:=I.tuple hq;have hlen:=r'.length;obtain⟨o,ho,hc,n,hd⟩:=pl;exact call_list_seq p (.inr rfl) ho hc hd (λh' c' kp e=>fin its r' hz h' c' kp e) (by simp only[OW]<;>omega)
def oJ:eR X (.type "tuple") (λxs H Q=>∃p ys,xs=[.ref p]/\((o9 X.K H p ys/\∀l,H l=none->Q (.ref l) (upd H l (.tup ys)))\/(qv X.K H p ys/\Q (.ref p) H))):=by
 intro pins s σ H xs us Q I r h;obtain⟨p,ys,rfl,h⟩:=h;obtain⟨u,rfl,rx⟩:=vals1 r;cases rx;rcases h with⟨hq,q⟩|⟨hq,q⟩
 ·obtain⟨its,r',pl,hz⟩:=I.list hq;have hlen:=r'.length;refine call_tuple_list pl.isList (λh' kp=>?_) (by simp only[OW]<;>omega);have I1:Inv X pins σ H {s with heap:=h'}:=I.kept (t':=s.toks) kp;have I2:Inv X pins σ (upd H h'.objs.size (.tup ys)) {s with heap:=h'.push {cls:=.type "tuple",data:=.seq its.toArray}}:=
   I1.laid (t':=s.toks) (λb o e=>RL _ e) (OT _) (show dq X.prog X.w _ _ _ (.tup ys)from⟨hz,its,r',IsTup.new _ _⟩)
  exact⟨.ref h'.objs.size,_,I2,rfl,q _ (I1.hok.fresh (OT _))⟩
 ·obtain⟨its,r',pl,hz⟩:=I.tuple hq;exact call_tuple_same pl ⟨.ref p,H,I,rfl,q⟩
def N3(K:Q7)(T:String)(x:V)(H:Hp):Prop:=match x with
 |.str _=>T="str"
 |.int _=>T="int"
 |.ref p=>(T="list"/\∃xs,o9 K H p xs)\/(T="tuple"/\∃o,K.lookup p=some o/\o.cls=.type "tuple"/\o.dict=none) \/
   (T="dict"/\((∃kvs,H p=some (.dK kvs))\/∃kvs,H p=some (.dT kvs)))\/(T="set"/\∃S n,H p=some (.set S n))
 |_=>False
def IR{pins:List (Si×Obj)}{σ:St}{H:Hp}{s:Sw}{T:String}{x:V}{v:Se}(I:Inv X pins σ H s)(r:RelV x v)(ty:N3 X.K T x H):
  s.TypeIs v T/\∀a,v=.ref a->∃ob,s.heap.get? a=some ob/\ob.dict=none:=by
 cases x with
 |str z=>
  obtain⟨t,rfl⟩:=r;cases(show T="str"from ty);exact⟨typeIs_str s z t,λ_ e=>nomatch e⟩
 |int i=>
  obtain⟨t,rfl⟩:=r;cases(show T="int"from ty);exact⟨typeIs_int s i t,λ_ e=>nomatch e⟩
 |ref p=>
  cases r;rcases ty with⟨rfl,xs,hq⟩|⟨rfl,o,hk,hc,hd⟩|⟨rfl,hk⟩|⟨rfl,S,n,hk⟩
  ·obtain⟨its,_,pl,_⟩:=I.list hq;refine⟨pl.isList.typeIs,λa e=>?_⟩;cases e;obtain⟨o,n,e,c,hd,_⟩:=pl;exact⟨o,e,hd⟩
  ·refine⟨⟨o,I.kIn p o hk,hc⟩,λa e=>?_⟩;cases e;exact⟨o,I.kIn _ o hk,hd⟩
  ·have z:∃o,s.heap.get? p=some o/\o.ExactDict:=by
    rcases hk with⟨kvs,hk⟩|⟨kvs,hk⟩
    ·obtain⟨_,_,_,_,o,_,_,e,ex,_⟩:=I.hok p _ hk;exact⟨o,e,ex⟩
    ·obtain⟨_,_,_,_,o,_,_,e,ex,_⟩:=I.hok p _ hk;exact⟨o,e,ex⟩
   obtain⟨o,e,ex⟩:=z;refine⟨⟨o,e,ex.1⟩,λa e2=>?_⟩;cases e2;exact⟨o,e,ex.2.1⟩
  ·obtain⟨o,_,_,_,e,ex,_⟩:=I.hok p _ hk;refine⟨⟨o,e,ex.1⟩,λa e2=>?_⟩;cases e2;exact⟨o,e,ex.2.1⟩
 |_=>exact False.elim ty
def Oz(K:Q7)(T:String)(r:V->List V->Hp->VK->Prop)(to:TE)(t:TA):TE:=λσ H Q=>to σ H λx H1=>N3 K T x H1/\t σ H1 λxs H2=>r x xs H2 Q
variable{o e:Sz}{es:List Sz}{to:TE}{t:TA}{name:Str}{apos cpos:Pos}{T id:String}{r:V->List V->Hp->VK->Prop}
def HA(pa:PlainAttrs T)(slot:Slot T name id)(hty:typeOf (.builtin id)=pure (.type "method_descriptor"))(hm:Om X id r)(ho:PE X o to)(ha:PA X (e::es) t)
  (hbase:Tt o name X.env (eval o X.env)=eval o X.env:=by rfl)
  (hfew:((backTo cpos (SA (e::es) X.env)).all (fun x=>!x.1) && (backToKw cpos (S4 [] X.env)).all (fun x=>x.1.isSome)
   && decide ((e::es).length+([]:List Tu).length+(if([]:List Tu).isEmpty then 0 else 1)<30))=true:=by rfl)
  (hline:(apos.endLine==cpos.line)=true:=by rfl) (hs:SA (e::es) X.env=(false,eval e X.env)::SA es X.env:=by rfl) (hplain:(backTo cpos (SA es X.env)).any (·.1)=false:=by rfl):
  PE X (.Call (.Attribute o name apos) (e::es) [] cpos) (Oz X.K T r to t):=by
 intro pins s σ H Q I h;refine wpAny_Call_method_late hbase hfew hline rfl (eZ (ho pins s σ H _ I h) λv s1 ⟨x,H1,I1,r1,ty,q1⟩=>?_);obtain⟨h1,h2⟩:=IR I1 r1 ty;refine⟨T,id,pa,slot,hty,h1,h2,?_⟩;have hA:=ha cpos pins s1 σ H1 _ I1 q1;rw[hs]at hA ⊢;refine Calls.callWith_builtin (by show(false||(backTo cpos (SA es X.env)).any (·.1))=false;rw[hplain]<;>rfl) (Calls.evalArgs_plain ?_);exact eZ hA λus s2 ⟨vs,H2,I2,r2,q2⟩=>hm pins s2 σ H2 x vs v us Q I2 r1 r2 q2
end
def L1(X:Cx)(id:String)(r:V->List V->Hp->VK->Prop):Prop:=
 ∀(pins:List (Si×Obj))(s:Sw)(σ:St)(H:Hp)(x:V)(xs:List V)(v:Se)(us:List Se)(Q:VK),Inv X pins σ H s->RelV x v->Vals xs us->r x xs H Q->
  Sy (model X.prog X.w) X.A (call (.builtin id) (v::us)) (EP X pins σ Q) X.xe s
def Vals.one:∀{x:V}{us:List Se},Vals [x] us->∃u,us=[u]/\RelV x u
 |_,_,.cons r .nil=>⟨_,rfl,r⟩
section
variable{X:Cx}{pins:List (Si×Obj)}{σ:St}{H:Hp}{s:Sw}{l b:Si}{xs ys zs:List V}
def Inv.lset{its its':List Se}{n:Nat}{f:Array Se->Array Se}{t':Nat}(I:Inv X pins σ H s)(hH:H l=some (.lst xs))
  (e:s.heap.get? l=some {cls:=.type "list",data:=.seq its.toArray n}) (hf:f its.toArray=its'.toArray) (hv:Vals ys its') (hz:ys.length<=Sn):
  Inv X pins σ (upd H l (.lst ys)) {s with heap:=s.heap.update l (Obj.mapSeq f),toks:=t'}:=by
 have q:=PySem.IsL.update e f;rw[hf]at q;refine I.write (x:=l) (e:=l) (by rw[hH];exact trivial) (.inl rfl) (λb' u hb hu=>(Heap.get?_update_other s.heap (Obj.mapSeq f) (Ne.symm hb)).trans hu) ⟨_,q⟩ ?_;exact⟨hz,its',_,hv,q⟩
def Inv.lnew{its:List Se}{t':Nat}(I:Inv X pins σ H s)(hv:Vals ys its)(hz:ys.length<=Sn):
  Inv X pins σ (upd H s.heap.objs.size (.lst ys)) {s with heap:=s.heap.push {cls:=.type "list",data:=.seq its.toArray},toks:=t'}:=
 I.laid (λ_ _ q=>RL _ q) (OT _) ⟨hz,its,0,hv,RM _ rfl⟩
def Inv.fresh(I:Inv X pins σ H s):H s.heap.objs.size=none:=I.hok.fresh (OT _)
def Inv.lstM(I:Inv X pins σ H s)(hH:H l=some (.lst xs)):xs.length<=Sn/\∃(its:List Se)(n:Nat),Vals xs its/\xs.length=its.length/\s.heap.get? l=some {cls:=.type "list",data:=.seq its.toArray n}:=by
 obtain⟨z,its,n,r,e⟩:=I.hok l _ hH;exact⟨z,its,n,r,r.length,e⟩
def EI{n:Nat}(h:n<=Sn):Builtin.List.listTooLong n=false:=by
 unfold Builtin.List.listTooLong;exact decide_eq_false ‹0›
end
section
variable{X:Cx}
def A6:V->List V->Hp->VK->Prop:=λx vs H Q=>∃l xs y,x=.ref l/\vs=[y]/\H l=some (.lst xs)/\xs.length<Sn/\Q .non (upd H l (.lst (xs++[y])))
def eI:L1 X "list.append" A6:=by
 intro pins s σ H x vs v us Q I rx rv h;obtain⟨l,xs,y,rfl,rfl,hH,hz,q⟩:=h;cases rx;obtain⟨u,rfl,ru⟩:=rv.one;obtain⟨z,its,n,r,hl,e⟩:=I.lstM hH;refine call_meets F.slot_list_append ⟨_,e,rfl⟩ F.entry_list_append (F.args_list_append_2 _ _) (PySem.list_append l its.toArray n u (by rw[OW];omega)) ⟨e,?_⟩;refine⟨.non,_,I.lset (its':=its++[u]) hH e (by simp) (r.append (.cons ru .nil)) ?_,rfl,q⟩;rw[Pk,Pq];omega
def GQ:V->List V->Hp->VK->Prop:=λx vs H Q=>∃l b xs zs,x=.ref l/\vs=[.ref b]/\H l=some (.lst xs)/\H b=some (.lst zs)/\xs.length+zs.length<=Sn/\Q .non (upd H l (.lst (xs++zs)))
def CV:L1 X "list.extend" GQ:=by
 intro pins s σ H x vs v us Q I rx rv h;obtain⟨l,b,xs,zs,rfl,rfl,hH,hB,hz,q⟩:=h;cases rx;obtain⟨u,rfl,ru⟩:=rv.one;cases ru;obtain⟨z,its,n,r,hl,e⟩:=I.lstM hH;obtain⟨z2,its2,n2,r2,hl2,e2⟩:=I.lstM hB;have hsz:its.toArray.size+its2.toArray.size<=Sn:=by rw[OW,OW];omega
 have hlong:¬(!its.toArray.isEmpty&&Builtin.List.listTooLong (its.toArray.size+its2.toArray.size))=true:=by
  rw[EI hsz,Pr];exact OX
 refine call_meets F.slot_list_extend ⟨_,e,rfl⟩ F.entry_list_extend (F.args_list_extend_2 _ _)
  (AutoSeq1.list_extend_list_list_0 l its.toArray n b its2.toArray n2 hlong (by rw[OW];omega) ‹0›) ⟨e,e2,?_⟩
 refine⟨.non,_,I.lset (its':=its++its2) hH e (by simp) (r.append r2) ?_,rfl,q⟩;rw[Pk];omega
end
end L2
namespace Att
open PySem PySem.W PySem.Calls PyProof.Rows
def rP{P:Params}{h:Sl}:∀(ns:List Int)(vs:List Se),WellAll P h vs (ns.map WData.int)->IntsAre vs ns:=by
 intro ns
 induction ns with
 |nil=>
  intro vs w;rw[Pt]at w;cases w;exact .nil
 |cons n ns ih=>
  intro vs w;rw[OZ]at w;cases w with
  |cons a b=>
   cases a;exact .cons _ _ (ih _ b)
def CN{l:OpenLaw}{n:Nat}(hn:l.most=some n){P:Params}{h:Sl}{args:List WData}{vals:List Se}
  (hpre:l.row.toRowW.claim.pre args=true) (hwl:WellAll P h vals args):
  ∃a vs ns,vals=[Value.ref a]/\args=[WData.list (ns.map WData.int)]/\h.get? a=some {cls:=.type "list",data:=.seq vs.toArray}/\IntsAre vs ns/\ns.length<=n:=by
 have hsh:WShape.hasAll [] args [.list .int]=true:=(pre_splitW hpre).1;have hc:l.pre.holds [] {args:=args}=true:=(pre_splitW hpre).2;obtain⟨d,r,rfl,h1,h2⟩:=hasAllW_cons hsh;obtain rfl:=hasAllW_nil h2;obtain⟨xs,rfl,h3⟩:=hasW_list h1;obtain⟨ns,rfl⟩:=items_int h3;have hlen:ns.length<=n:=by
  unfold OpenLaw.pre at hc;have h4:(WTm.not (.lt (.lit (.int (n:Int))) (.len (.arg 0)))).holds [] {args:=[.list (ns.map .int)]}=true:=by
   have h4:=(holds_andW hc).1;rw[hn]at h4;exact h4
  have h5:=condW_of h4 (w_not (w_lt w_lit (w_len_list (w_arg rfl))));rw[O0]at h5;refine Nat.le_of_not_lt λq=>?_;have q':(n:Int)<((ns.length:Nat):Int):=by omega
  first
   |(rw[decide_eq_true q']at h5;exact absurd h5 (by decide))
   |(simp at h5;omega)
 cases hwl with
 |cons w1 w2=>
  cases w2;cases w1 with
  |list ho hall=>exact⟨_,_,ns,rfl,rfl,ho,rP ns _ hall,hlen⟩
def B9(l:OpenLaw)(args:List WData):l.row.toRowW.claim.post args (.bool true) args=true:=
 postW_of (r:=l.row.toRowW) (X:=(true==true))
  (show WShape.has [] (.bool true) .bool=true by first|rfl|decide|simp[WShape.has,WShape.arms,WShape.armsAll])
  (show(WTm.eq .res (.lit (.bool true))).value [] {args:=args,res:=some (.bool true),after:=args}=some (.bool (true==true))from w_eq_bool (w_res rfl) w_lit) rfl
def Hm{l:OpenLaw}{n:Nat}{q:Sg}{loose:List Str}{XP:(Str->Option Se)->Sl->Prop}{YP:Sf->Sl->Prop}{d:DefRec}
  (hn:l.most=some n) (hdf:d.params.defaults=[])
  (call:∀ (w:Sf) (s₀ s₁:Sw) (mg mb:Str->Option Se) (fa:Si) (o:Obj) (pm cd doc:Se) (a:Si) (vs:List Se) (ns:List Int),
   Ground q loose [] XP w s₀ mg mb s₁.heap->YP w s₁.heap->
   s₁.heap.get? fa=some o->o.data=.func (docDef d.name d.params d.body d.scope pm cd doc)->s₁.heap.CodeRec cd d.name->mg d.name=some (.ref fa)->
   s₁.heap.get? a=some {cls:=.type "list",data:=.seq vs.toArray}->IntsAre vs ns->ns.length<=n->s₁.gens=#[]->
   S0 (model l.prog w) callerA (.call (.ref fa) ⟨[.ref a],[]⟩) (λr s'=>r=.ok (.ret (.bool true))/\OldK s₁.heap s'.heap/\s'.os=s₁.os/\AllBare s'.gens) s₁):
  WalkO q loose XP YP l.row.toRowW d [] (λf vs=>PySem.call f vs):=by
 intro w s₀ s₁ mg mb G Y fa o pm cd doc dV kV ho hd hcd hD hmg hg args vals as hpre hlay hrd hwl hlo;obtain rfl:dV=.none:=Dflts.none hD hdf;obtain rfl:kV=.none:=Dflts.noKw hD;obtain⟨a,vs,ns,rfl,rfl,hobj,hints,hlen⟩:=CN hn hpre hwl;refine enter_call (Ta (call w s₀ s₁ mg mb fa o pm cd doc a vs ns G Y ho (fd_plain hd) hcd hmg hobj hints hlen hg) λr s' hq=>?_);obtain⟨rfl,h2,h3,h4⟩:=hq;exact⟨.inl ⟨.bool true,.bool true,[],rfl,λ_=>rfl,.bool true,B9 l _,λ_=>⟨List.Pairwise.nil,λ_ hm=>(nomatch hm)⟩⟩,h2,h3,h4⟩
section
variable{prog:Sg}{w:Sf}{A:Sv}{E:Se->Sw->Prop}{s:Sw}{K:Frag}
end
end Att
namespace L2
open PySem PySem.Spec PyProof.Rows
def vB:∀{vs:List Se}{ns:List Int},IntsAre vs ns->Vals (ns.map V.int) vs
 |_,_,.nil=>.nil
 |_,_,.cons n t h=>.cons ⟨t,rfl⟩ (vB h)
def inClass(s:SD)(j:Nat):SD:=match s with
 |.ClassDef _ _ _ body _ _ _ _ _ _ _=>body.getD j (.Pass ⟨0,0,0,0⟩)
 |_=>.Pass ⟨0,0,0,0⟩
def nS(s:SD):Te:=match s with
 |.FunctionDef _ a _ _ _ _ _ _ _ _=>a
 |_=>{posonlyargs:=[],args:=[],vararg:=none,kwonlyargs:=[],kw_defaults:=[],kwarg:=none,defaults:=[]}
def gr(s:SD):List SD:=match s with
 |.FunctionDef _ _ b _ _ _ _ _ _ _=>b
 |_=>[]
def aA(s:SD):Sx:=match s with
 |.FunctionDef _ _ _ _ _ _ sc _ _ _=>sc
 |_=>{kind:=.function,names:=[],isGenerator:=false,isCoroutine:=false}
abbrev LY:zF:=λ_ _ _ _ _ _=>False
abbrev E0:XK:=λ_ _ _=>False
structure uG(K:Q7)(x qual:Str)(st:SD)(f:Si)(fd:S7):Prop where
 ex:∃(oc:Se)(od:Option Si)(kV doc pm:Se)(an:Option Si)(cdv ct:Se)(osl:Array (Option Se)),
  fd=Ru x qual (nS st) (gr st) (aA st) .none kV doc pm an cdv ct/\K.lookup f=some ⟨oc,od,.func fd,osl⟩/\Rv K cdv qual=true
 kp:Rq K (.ref f)=true
section
variable{P:Sg}{w:Sf}{K:Q7}{mg:Str->Option Se}{base:Sl}
def uG.ok{x qual:Str}{st:SD}{f:Si}{fd:S7}{N ps:List Str}{k:Nat}{sp:Sp}(F:uG K x qual st f fd)(S:aX N ps (aA st))(len:∀vs H Q E,sp vs H Q E->vs.length=ps.length)
  (hbody:∀ (cdv:Se) (A:Sv) (outer:List Env) (s:Sw) (H:Hp) (vs:List V) (Q:VK) (E:XK),gP k (A.deeper (envOfC qual (aA st) s.heap.objs.size f cdv))->sp vs H Q E ->
   ∃t,xS (kC LY P w K mg base N qual (aA st) f cdv A outer s H E).nox (gr st) t/\t {nx:=λ_ H'=>Q .non H',rt:=Q} (start N vs) H):jV P w K mg base LY (k+1) f fd ps sp:=by
 obtain⟨oc,od,kV,doc,pm,an,cdv,ct,osl,rfl,lk,hcd⟩:=F.ex;refine Di lk hcd S len λA outer s H vs Q E hr hsp=>?_;obtain⟨t,h,q⟩:=hbody cdv A outer s H vs Q E hr hsp;exact⟨t,h.nox,q⟩
def uG.binds{x qual:Str}{st:SD}{f:Si}{fd:S7}{ps:List Str}(F:uG K x qual st f fd)
  (h:∀(kV doc pm:Se)(an:Option Si)(cdv ct:Se)(us:List Se),us.length=ps.length->bindArgs (Ru x qual (nS st) (gr st) (aA st) .none kV doc pm an cdv ct) ⟨us,[]⟩=pure (ps.zip us)):Binds K fd ps []:=by
 obtain⟨oc,od,kV,doc,pm,an,cdv,ct,osl,rfl,lk,hcd⟩:=F.ex;exact .all (h kV doc pm an cdv ct)
def bK{x qual:Str}{st:SD}{f:Si}{oc:Se}{od an:Option Si}{osl:Array (Option Se)}{kV doc pm cdv ct:Se}(l:K.lookup f=some ⟨oc,od,.func (Ru x qual (nS st) (gr st) (aA st) .none kV doc pm an cdv ct),osl⟩)
  (c:Rv K cdv qual=true) (k:Rq K (.ref f)=true):uG K x qual st f (Ru x qual (nS st) (gr st) (aA st) .none kV doc pm an cdv ct):=⟨⟨oc,od,kV,doc,pm,an,cdv,ct,osl,rfl,l,c⟩,k⟩
end
section
variable{X:Cx}
def pv(i:Nat){x:Str}{pos:Pos}(hN:X.N[i]?=some x:=by rfl)(hv:Ig X.env.scope x:=by first|exact Or.inl rfl|exact Or.inr (Or.inl rfl)|exact Or.inr (Or.inr rfl))(hd:(x==("__debug__":Str))=false:=by decide)
  (hcd:(x==("__classdict__":Str))=false:=by decide):PE X (.Name x pos) (uW i):=Jj hN hv hd hcd
end
def zE{A B:Prop}(h:B):if false=true then A else B:=by
 rw[if_neg OX];exact h
def zp{A B:Prop}(h:A):if true=true then A else B:=by
 rw[if_pos rfl];exact h
def bT(H H':Hp):Prop:=∀b o,H b=some o->H' b=some o
def bT.refl(H:Hp):bT H H:=λ_ _ h=>h
def bT.trans{H H1 H2:Hp}(a:bT H H1)(b:bT H1 H2):bT H H2:=λc o h=>b c o (a c o h)
def bT.free{H H':Hp}(e:bT H H'){l:Si}(h:H' l=Option.none):H l=Option.none:=by
 cases q:H l with
 |none=>rfl
 |some o=>
  rw[e l o q]at h;cases h
def bT.seq{K:Q7}{H H':Hp}{a:Si}{xs:List V}(e:bT H H')(h:o9 K H a xs):o9 K H' a xs:=by
 rcases h with(h|⟨o,h⟩)|h
 ·exact .inl (.inl (e _ _ h))
 ·exact .inl (.inr ⟨o,e _ _ h⟩)
 ·exact .inr h
section
variable{κ:Type}[DecidableEq κ]
def oG(kvs:List (κ×V))(k:κ):Option V:=(kvs.find? λkv=>decide (kv.1=k)).map (·.2)
def putK(kvs:List (κ×V))(k:κ)(v:V):List (κ×V):=
 if(kvs.any λkv=>decide (kv.1=k))=true then kvs.map (λkv=>if kv.1=k then(kv.1,v)else kv)else kvs++[(k,v)]
def mN{p:κ×V}{r:List (κ×V)}{k:κ}(e:p.1=k):oG (p::r) k=some p.2:=by simp[oG,Pu,e]
def mP{p:κ×V}{r:List (κ×V)}{k:κ}(e:¬p.1=k):oG (p::r) k=oG r k:=by simp[oG,Pu,e]
def yu(k:κ):∀kvs:List (κ×V),(kvs.any λkv=>decide (kv.1=k))=(oG kvs k).isSome
 |[]=>rfl
 |p::r=>by
  rw[Pw];by_cases e:p.1=k
  ·simp only[mN e,decide_eq_true e,Bool.true_or,Option.isSome_some]
  ·rw[mP e,decide_eq_false e,Bool.false_or];exact yu k r
def mX(kvs:List (κ×V))(k:κ)(v:V):(putK kvs k v).length<=kvs.length+1:=by
 unfold putK;split
 ·rw[O0];omega
 ·rw[Pk,OY,Px];omega
def wY.isSome_eq{o:Option V}{u:Option Se}(r:wY o u):o.isSome=u.isSome:=by
 cases o with
 |none=>cases u with
  |none=>rfl
  |some _=>exact(show False from r).elim
 |some _=>cases u with
  |none=>exact(show False from r).elim
  |some _=>rfl
def KV.val{kvs:List (κ×V)}{vs:List (κ×Se)}(r:KV kvs vs)(k:κ):wY (oG kvs k) (valueAt vs k):=by
 unfold KV at r
 induction r with
 |nil=>exact True.intro
 |@cons p q ps qs h t ih=>
  obtain⟨h1,h2⟩:=h;by_cases e:p.1=k
  ·have e':q.1=k:=h1.symm.trans e;have b:valueAt (q::qs) k=some q.2:=(by simp[valueAt,Pu,e']);rw[mN e,b];exact h2
  ·have e':¬q.1=k:=λz=>e (h1.trans z);have b:valueAt (q::qs) k=valueAt qs k:=(by simp[valueAt,Pu,e']);rw[mP e,b];exact ih
def KV.any{kvs:List (κ×V)}{vs:List (κ×Se)}(r:KV kvs vs)(k:κ):(kvs.any λkv=>decide (kv.1=k))=vs.any λkv=>decide (kv.1=k):=by
 unfold KV at r
 induction r with
 |nil=>rfl
 |cons h t ih=>rw[Pw,Pw,ih,h.1]
def KV.repl{kvs:List (κ×V)}{vs:List (κ×Se)}(r:KV kvs vs)(k:κ){y:V}{u:Se}(ry:RelV y u):
  KV (kvs.map λkv=>if kv.1=k then(kv.1,y)else kv) (vs.map λkv=>if kv.1=k then(kv.1,u)else kv):=by
 unfold KV at r ⊢
 induction r with
 |nil=>exact .nil
 |@cons p q ps qs h t ih=>
  rw[OZ,OZ];refine .cons ?_ ih;obtain⟨h1,h2⟩:=h;by_cases e:p.1=k
  ·rw[if_pos e,if_pos (h1.symm.trans e)];exact⟨h1,ry⟩
  ·rw[if_neg e,if_neg (λz=>e (h1.trans z))];exact⟨h1,h2⟩
def KV.put{kvs:List (κ×V)}{vs:List (κ×Se)}(r:KV kvs vs)(k:κ){y:V}{u:Se}(ry:RelV y u):KV (putK kvs k y) (stored vs k u):=by
 unfold putK stored;rw[r.any k];by_cases e:(vs.any λkv=>decide (kv.1=k))=true
 ·rw[if_pos e,if_pos e];exact r.repl k ry
 ·rw[if_neg e,if_neg e];exact Paired.snoc r ⟨rfl,ry⟩
def KV.keys{kvs:List (κ×V)}{vs:List (κ×Se)}(r:KV kvs vs):kvs.map (·.1)=vs.map (·.1):=by
 unfold KV at r
 induction r with
 |nil=>rfl
 |cons h t ih=>rw[OZ,OZ,ih,h.1]
def KV.length{kvs:List (κ×V)}{vs:List (κ×Se)}(r:KV kvs vs):kvs.length=vs.length:=Paired.length r
end
def Bq{P:Sg}{w:Sf}{k:Key}{u:Se}(r:RelV (kV k) u):(dr P w).is k u=true:=by
 cases k with
 |inl i=>obtain⟨t,e⟩:=(show∃t,u=Value.int i t from r);subst e;exact yf P w i t
 |inr x=>obtain⟨t,e⟩:=(show∃t,u=Value.str x t from r);subst e;exact yF P w x t
def vX{P:Sg}{w:Sf}:∀{ks:List Key}{us:List Se},Vals (ks.map kV) us->ItemsAre (dr P w) ks us
 |[],_,r=>by rw[Pt]at r;cases r;exact .nil
 |k::ks,_,r=>by
  rw[OZ]at r;cases r with
  |cons h t=>exact .cons (Bq h) (vX t)
abbrev KT(H:Hp):List (List Key×V)->List (List Key×Si×Se)->Prop:=Sj λp q=>p.1=q.1/\H q.2.1=some (.tup (p.1.map kV))/\RelV p.2 q.2.2
def KT.val{H:Hp}{kvs:List (List Key×V)}{xs:List (List Key×Si×Se)}(r:KT H kvs xs)(k:List Key):wY (oG kvs k) ((atKey xs k).map (·.2)):=by
 induction r with
 |nil=>exact True.intro
 |@cons p q ps qs h t ih=>
  obtain⟨h1,_,h2⟩:=h;by_cases e:p.1=k
  ·have e':q.1=k:=h1.symm.trans e;have b:atKey (q::qs) k=some q.2:=(by simp[atKey,Pu,e']);rw[mN e,b];exact h2
  ·have e':¬q.1=k:=λz=>e (h1.trans z);have b:atKey (q::qs) k=atKey qs k:=(by simp[atKey,Pu,e']);rw[mP e,b];exact ih
def KT.repl{H:Hp}{kvs:List (List Key×V)}{xs:List (List Key×Si×Se)}(r:KT H kvs xs)(k:List Key){y:V}{u:Se}(ry:RelV y u):
  KT H (kvs.map λkv=>if kv.1=k then(kv.1,y)else kv) (xs.map (putAt k u)):=by
 induction r with
 |nil=>exact .nil
 |@cons p q ps qs h t ih=>
  rw[OZ,OZ];refine .cons ?_ ih;obtain⟨h1,h2,h3⟩:=h;unfold putAt;by_cases e:p.1=k
  ·rw[if_pos e,if_pos (h1.symm.trans e)];exact⟨h1,h2,ry⟩
  ·rw[if_neg e,if_neg (λz=>e (h1.trans z))];exact⟨h1,h2,h3⟩
def KT.put{H:Hp}{kvs:List (List Key×V)}{xs:List (List Key×Si×Se)}(r:KT H kvs xs)(k:List Key){b:Si}{y:V}{u:Se}(hb:H b=some (.tup (k.map kV)))(ry:RelV y u):
  KT H (putK kvs k y) (storedH xs k b u):=by
 have e:(kvs.any λkv=>decide (kv.1=k))=(atKey xs k).isSome:=by
  rw[yu,(r.val k).isSome_eq,Py]
 unfold putK storedH;rw[e];by_cases q:(atKey xs k).isSome=true
 ·rw[if_pos q,if_pos q];exact r.repl k ry
 ·rw[if_neg q,if_neg q];exact Paired.snoc r ⟨rfl,hb,ry⟩
def KT.keeps{H H':Hp}{kvs:List (List Key×V)}{xs:List (List Key×Si×Se)}(r:KT H kvs xs)(ht:∀b ys,H b=some (.tup ys)->H' b=some (.tup ys)):KT H' kvs xs:=
 Paired.mapP r λ_ _ z=>⟨z.1,ht _ _ z.2.1,z.2.2⟩
section
variable{P:Sg}{w:Sf}{H:Hp}{h:Sl}{a:Si}
def Hy{u:HO}(ok:pA P w H h)(e:Rd H a u):dq P w H h a u:=e.ok ok
def Bg{kvs:List (Key×V)}(ok:pA P w H h)(e:Rd H a (.dK kvs)):kvs.length<=Sn/\(a==sysModules)=false/\∃vs,KV kvs vs/\h.DictOf (dr P w) a vs:=
 show dq P w H h a (.dK kvs)from Hy ok e
def Hs{kvs:List (Key×V)}(ok:pA P w H h)(e:H a=some (.dK kvs)):kvs.length<=Sn/\(a==sysModules)=false/\∃vs,KV kvs vs/\h.DictOf (dr P w) a vs:=Bg ok (.inl e)
def tD{ks:List Key}(ok:pA P w H h)(e:H a=some (.tup (ks.map kV))):(tupleKind (dr P w)).is h ks a:=by
 obtain⟨_,its,r,o,h1,h2,n,h3⟩:=(show dq P w H h a (.tup (ks.map kV))from ok a _ e)
 exact⟨o,its.toArray,n,h1,h2,h3,by simpa using vX r⟩
def xW{kvs:List (List Key×V)}(ok:pA P w H h)(e:Rd H a (.dT kvs)):kvs.length<=Sn/\(a==sysModules)=false/\
  ∃xs,KT H kvs xs/\h.DictOfH (tupleKind (dr P w)) a xs:=by
 obtain⟨z,y,xs,r,o,es,ep,h1,h2,h3,h4,h5⟩:=(show dq P w H h a (.dT kvs)from Hy ok e)
 refine⟨z,y,xs,r,o,es,ep,h1,h2,h3,h4,λx hx=>?_,h5⟩;have all:∀{l:List (List Key×V)}{m:List (List Key×Si×Se)},KT H l m->∀x∈m,(tupleKind (dr P w)).is h x.1 x.2.1:=by
  intro l m q
  induction q with
  |nil=>intro x hx;exact nomatch hx
  |@cons p q ps qs hq t ih=>
   intro x hx;rcases List.mem_cons.mp hx with e|hx
   ·subst e;exact tD ok (by rw[<-hq.1];exact hq.2.1)
   ·exact ih x hx
 exact all r x hx
def Kp{kvs:List (List Key×V)}(ok:pA P w H h)(e:H a=some (.dT kvs)):kvs.length<=Sn/\(a==sysModules)=false/\
  ∃xs,KT H kvs xs/\h.DictOfH (tupleKind (dr P w)) a xs:=xW ok (.inl e)
end
def EZ(H:Hp)(a:Si)(y:V)(r:Option V):Prop:=
 (∃kvs k,Rd H a (.dK kvs)/\y=kV k/\r=oG kvs k)\/∃kvs k b,Rd H a (.dT kvs)/\y=.ref b/\H b=some (.tup (k.map kV))/\r=oG kvs k
def HZ(H:Hp)(a:Si)(y v:V)(H':Hp):Prop:=
 (∃kvs k,H a=some (.dK kvs)/\y=kV k/\kvs.length<Sn/\H'=upd H a (.dK (putK kvs k v))) \/
 ∃kvs k b,H a=some (.dT kvs)/\y=.ref b/\H b=some (.tup (k.map kV))/\kvs.length<Sn/\H'=upd H a (.dT (putK kvs k v))
def EZ.t{H:Hp}{a b:Si}{kvs:List (List Key×V)}{k:List Key}(e:H a=some (.dT kvs))(eb:H b=some (.tup (k.map kV))):EZ H a (.ref b) (oG kvs k):=.inr ⟨kvs,k,b,.inl e,rfl,eb,rfl⟩
def HZ.k{H:Hp}{a:Si}{kvs:List (Key×V)}{k:Key}{v:V}(e:H a=some (.dK kvs))(hl:kvs.length<Sn):HZ H a (kV k) v (upd H a (.dK (putK kvs k v))):=.inl ⟨kvs,k,e,rfl,hl,rfl⟩
def HZ.t{H:Hp}{a b:Si}{kvs:List (List Key×V)}{k:List Key}{v:V}(e:H a=some (.dT kvs))(eb:H b=some (.tup (k.map kV)))(hl:kvs.length<Sn):
  HZ H a (.ref b) v (upd H a (.dT (putK kvs k v))):=.inr ⟨kvs,k,b,e,rfl,eb,hl,rfl⟩
section
variable{X:Cx}{pins:List (Si×Obj)}{σ:St}{H:Hp}{s:Sw}{a:Si}{y v:V}{u r:Se}{o:Option V}{A:Sv}{E:Se->Sw->Prop}
def Inv.big(I:Inv X pins σ H s):sysModules<s.heap.objs.size:=by
 have h:Sr<s.heap.objs.size:=(I.mod.glob.keeps I.bk).lt;exact Pz (by decide) h
def CH{Q:Se->Sw->Prop}(hu:A.units+1<S6)(I:Inv X pins σ H s)(g:EZ H a y (some v))(ry:RelV y u)(h:∀w' s',Inv X pins σ H s'->RelV v w'->Q w' s'):
  Sy (model X.prog X.w) A (getItem (.ref a) u) Q E s:=by
 rcases g with⟨kvs,k,e,ey,l⟩|⟨kvs,k,b,e,ey,eb,l⟩
 ·subst ey;obtain⟨z,hd,vs,rel,dd⟩:=Bg I.hok e;obtain⟨w',hw,rw'⟩:=wY.some_of (v:=v) (o:=valueAt vs k) (by rw[l];exact rel.val k);exact wpAny_getItem_of (Bq ry) dd.mapOf hw (h w' _ (I.tok _) rw')
 ·subst ey;cases(show u=Value.ref b from ry);obtain⟨z,hd,xs,rel,dd⟩:=xW I.hok e;obtain⟨w',hw,rw'⟩:=wY.some_of (v:=v) (o:=(atKey xs k).map (·.2)) (by rw[l];exact rel.val k);obtain⟨p,hp,hp2⟩:=Option.map_eq_some_iff.mp hw;refine wpAny_getItem_heap (Tv hu) (tD I.hok eb) dd hp ?_;rw[hp2];exact h w' _ (I.tok _) rw'
def Bh{Q:Se->Sw->Prop}(hu:A.units+1<S6)(I:Inv X pins σ H s)(g:EZ H a y o)(ry:RelV y u)(h:∀s',Inv X pins σ H s'->Q (.bool (!o.isSome)) s'):
  Sy (model X.prog X.w) A (SV .NotIn u (.ref a)) Q E s:=by
 rcases g with⟨kvs,k,e,ey,l⟩|⟨kvs,k,b,e,ey,eb,l⟩
 ·subst ey;obtain⟨z,hd,vs,rel,dd⟩:=Bg I.hok e;refine wpAny_notIn_of (Bq ry) hd dd.mapOf ?_;rw[<-(rel.val k).isSome_eq,<-l];exact h _ (I.tok _)
 ·subst ey;cases(show u=Value.ref b from ry);obtain⟨z,hd,xs,rel,dd⟩:=xW I.hok e;refine wpAny_notIn_heap (Tv hu) (tD I.hok eb) hd dd ?_;have q:=(rel.val k).isSome_eq;rw[Py]at q;rw[<-q,<-l];exact h _ (I.tok _)
def sF{h':Sl}{t':Nat}{ob:HO}(I:Inv X pins σ H s)(mu:JG (H a))(hs:RK a s.heap h')(he:∃q,h'.get? a=some q)(new:dq X.prog X.w (upd H a ob) h' a ob):
  Inv X pins σ (upd H a ob) {s with heap:=h',toks:=t'}:=
 I.write (x:=a) (e:=a) mu (.inl rfl) (λb q hb z=>(hs.2 b hb).trans z) he new
def IV{P:Sg}{w:Sf}{H':Hp}{h':Sl}{kvs:List (Key×V)}{vs:List (Key×Se)}(z:kvs.length<=Sn)(hd:(a==sysModules)=false)(rel:KV kvs vs)(dd:h'.DictOf (dr P w) a vs):
  dq P w H' h' a (.dK kvs):=⟨z,hd,vs,rel,dd⟩
def oq{H':Hp}{Q:Unit->Sw->Prop}(hu:A.units+1<S6)(I:Inv X pins σ H s)(g:HZ H a y v H')(ry:RelV y u)(rv:RelV v r)(h:∀s',Inv X pins σ H' s'->Q () s'):
  Sy (model X.prog X.w) A (setItem (.ref a) u r) Q E s:=by
 rcases g with⟨kvs,k,e,ey,l,eH⟩|⟨kvs,k,b,e,ey,eb,l,eH⟩
 ·subst ey eH;obtain⟨z,hd,vs,rel,dd⟩:=Hs I.hok e;have hz:vs.length<=Sn:=by rw[<-rel.length];exact z
  have hl:(putK kvs k v).length<=Sn:=by have:=mX kvs k v;omega
  refine wpAny_setItem_pairs (hsz:=hz) (Bq ry) dd λh' dd' hs=>h _ ?_;have he:∃q,h'.get? a=some q:=let ⟨q,_,_,hq,_⟩:=dd';⟨q,hq⟩
  exact sF I (by rw[e];exact True.intro) hs he (IV hl hd (rel.put k rv) dd')
 ·subst ey eH;cases(show u=Value.ref b from ry);obtain⟨z,hd,xs,rel,dd⟩:=Kp I.hok e;have hz:xs.length<=Sn:=by rw[<-Paired.length rel];exact z
  have hl:(putK kvs k v).length<=Sn:=by have:=mX kvs k v;omega
  refine wpAny_setItem_heap (hsz:=hz) (Tv hu) (tD I.hok eb) dd λh' dd' hs=>h _ ?_;obtain⟨q,es,ep,hq,h2,h3,h4,_,h5⟩:=dd';refine sF I (by rw[e];exact True.intro) hs ⟨q,hq⟩ ⟨hl,hd,_,(rel.put k eb rv).keeps λc ys ec=>?_,q,es,ep,hq,h2,h3,h4,h5⟩;rw[bp (Ki ec e (λz=>nomatch z))];exact ec
end
def Fx(i:Sz):Prop:=∀ov iv,subscripted i false ov iv=operate [ov,iv] (getItem ov iv)
def Gp{prog:Sg}{w:Sf}{A:Sv}{E:Se->Sw->Prop}{s:Sw}{env:Env}{value slice:Sz}{pos:Pos}{T id:String}{Q:Se->Sw->Prop}
  (hl:typeLookup (.type T) "__getitem__"=pure (some (.builtin id))) (hs:Fx slice)
  (h:Sy (model prog w) A (eval value env) (λo s₁=>Sy (model prog w) A (eval slice env) (λi s₂=>s₂.TypeIs o T/\Sy (model prog w) A (getItem o i) Q E s₂) E s₁) E s):
  Sy (model prog w) A (eval (.Subscript value slice pos) env) Q E s:=by
 refine Ts (SE h (λo s₁ h₁=>SE h₁ (λi s₂ h₂=>?_) λ_ _ x=>x) λ_ _ x=>x);obtain⟨hT,h₂⟩:=h₂;unfold subscriptTail;refine SK ?_;rw[getitemInPython_of_ne hT.not_modules];refine SK (wpAny_specialOf hT hl ?_);have fin:Sy (model prog w) A (subscripted slice false o i) (λr s₃=>Sy (model prog w) A (letTemporaryGo value o r >>= λ_=>pure r) Q E s₃) E s₂:=by
  rw[hs o i];exact wpAny_operating (SE h₂ (λr s₃ h₃=>SK (wpAny_letTemporaryGo (SJ h₃))) λ_ _ x=>x)
 first
  |exact SJ (SK fin)
  |exact SK (SJ (SK fin))
  |exact SK fin
def yn{X:Cx}{pins:List (Si×Obj)}{σ:St}{H:Hp}{s:Sw}{a:Si}{y:V}{o:Option V}(I:Inv X pins σ H s)(g:EZ H a y o):s.TypeIs (.ref a) "dict":=by
 rcases g with⟨kvs,k,e,_,_⟩|⟨kvs,k,b,e,_,_,_⟩
 ·obtain⟨_,_,vs,_,dd⟩:=Bg I.hok e;exact dd.typeIs
 ·obtain⟨_,_,xs,_,dd⟩:=xW I.hok e;exact dd.typeIs
def J9(td ty:TE):TE:=λσ H Q=>td σ H λx H1=>ty σ H1 λy H2=>∃a v,x=.ref a/\EZ H2 a y (some v)/\Q v H2
section
variable{X:Cx}{o i e value:Sz}{pos pos' tpos:Pos}{td ty tv:TE}
def GJ(hu:X.A.units+1<S6)(ho:PE X o td)(hi:PE X i ty)(hs:Fx i):PE X (.Subscript o i pos) (J9 td ty):=by
 intro pins s σ H Q I h;refine Gp PySem.F.slot_dict_getitem.lookup hs (eZ (ho pins s σ H _ I h) λu s1 ⟨x,H1,I1,rx,q1⟩=>eZ (hi pins s1 σ H1 _ I1 q1) λiv s2 ⟨y,H2,I2,ry,a,v,ex,g,q2⟩=>?_);subst ex;obtain rfl:u=Value.ref a:=rx;exact⟨yn I2 g,CH hu I2 g ry λw' s3 I3 rw'=>⟨v,H2,I3,rw',q2⟩⟩
end
def EV{P:Sg}{w:Sf}{H:Hp}(h:Sl)(hb:sysModules<h.objs.size):dq P w H (h.push {cls:=.type "dict",data:=.dict #[]}) h.objs.size (.dT []):=
 ⟨O3 _,beq_eq_false_iff_ne.mpr (Ne.symm (OD hb)),[],.nil,_,#[],0,RM _ rfl,⟨rfl,rfl,rfl⟩,rfl,rfl,PB⟩
def HX:TE:=λ_ H Q=>∀p,H p=none->Q (.ref p) (upd H p (.dT []))
section
variable{X:Cx}{pos:Pos}
def Dd:PE X (.Dict [] [] pos) HX:=λpins s σ H Q I h=>
 wpAny_Dict_empty ⟨.ref s.heap.objs.size,_,I.laid (a:=s.heap.objs.size) (o:=.dT []) (t':=s.toks) (λ_ _ q=>RL _ q) (OT _) (EV s.heap I.big),rfl,h _ (I.hok.fresh (OT _))⟩
end
def eJ(cells:List (Str×Si)):List (Str×Td)->List (Str×Si)->List (Str×Si)
 |[],acc=>acc
 |(n,k)::r,acc=>if k=.free then(match cells.lookup n with|some c=>eJ cells r ((n,c)::acc)|none=>eJ cells r acc)else eJ cells r acc
def nQ{cells:List (Str×Si)}:∀(names:List (Str×Td))(acc:List (Str×Si)),(∀x c,acc.lookup x=some c->cells.lookup x=some c)->
  ∀x c,(eJ cells names acc).lookup x=some c->cells.lookup x=some c
 |[],acc,h=>h
 |(n,k)::r,acc,h=>by
  unfold eJ;by_cases hk:k=.free
  ·rw[if_pos hk];cases e:cells.lookup n with
   |none=>exact nQ r acc h
   |some c0=>
    refine nQ r _ λx c q=>?_;rw[PC]at q;cases hx:x==n with
    |true=>
     rw[hx]at q;have e1:x=n:=(by simpa using hx);cases q;rw[e1];exact e
    |false=>rw[hx]at q;exact h x c q
  ·rw[if_neg hk];exact nQ r acc h
def lW{cells:List (Str×Si)}:∀(names:List (Str×Td))(acc:List (Str×Si))(x:Str),(acc.lookup x).isSome=true->((eJ cells names acc).lookup x).isSome=true
 |[],acc,x,h=>h
 |(n,k)::r,acc,x,h=>by
  unfold eJ;by_cases hk:k=.free
  ·rw[if_pos hk];cases e:cells.lookup n with
   |none=>exact lW r acc x h
   |some c0=>
    refine lW r _ x ?_;rw[PC];cases hx:x==n with
    |true=>rfl
    |false=>exact h
  ·rw[if_neg hk];exact lW r acc x h
def kK{cells:List (Str×Si)}:∀(names:List (Str×Td))(acc:List (Str×Si))(x:Str),(x,NameKind.free)∈names->(∃c,cells.lookup x=some c)->((eJ cells names acc).lookup x).isSome=true
 |[],acc,x,h,_=>absurd h (by simp)
 |(n,k)::r,acc,x,h,hc=>by
  unfold eJ;rcases List.mem_cons.mp h with e|h
  ·cases e;rw[if_pos rfl];obtain⟨c,e⟩:=hc;rw[e];refine lW r _ _ ?_;rw[PC];simp
  ·by_cases hk:k=.free
   ·rw[if_pos hk];cases e:cells.lookup n with
    |none=>exact kK r acc x h hc
    |some c0=>exact kK r _ x h hc
   ·rw[if_neg hk];exact kK r acc x h hc
def pE{scope:Sx}{env:Env}(h:∀p∈scope.names,p.2=.free->∃c,env.cells.lookup p.1=some c):closureFor scope env=pure (eJ env.cells scope.names []):=by
 have go:∀(names:List (Str×Td))(acc:List (Str×Si)),(∀p∈names,p.2=.free->∃c,env.cells.lookup p.1=some c)->
   (forIn names acc λx cs=>(match x with|(name,kind)=>if(kind==NameKind.free)=true then do let a<-cellOf env name;pure (ForInStep.yield ((name,a)::cs))else pure (ForInStep.yield cs):Sem (ForInStep (List (Str×Si)))))=pure (eJ env.cells names acc):=by
  intro names
  induction names with
  |nil=>intro acc _;rfl
  |cons p r ih=>
   intro acc hp;obtain⟨n,k⟩:=p;rw[PD];by_cases hk:k=.free
   ·obtain⟨c,e⟩:=hp (n,k) OJ hk;subst hk;have e2:cellOf env n=pure c:=(by unfold cellOf;rw[e]);simp only[beq_self_eq_true,if_true,e2,pure_bind];rw[ih _ λq hq=>hp q (OL _ hq)]
    conv=>rhs;rw[eJ]
    simp[e]
   ·have hb:(k==NameKind.free)=false:=(by simpa using hk);simp only[hb,PF,if_false,pure_bind];rw[ih _ λq hq=>hp q (OL _ hq)]
    conv=>rhs;rw[eJ,if_neg hk]
 have:=go scope.names [] h
 unfold closureFor;simp only[];rw[this];rfl
def dh(X:Cx)(scope:Sx)(N:List Str)(cl:List (Str×Si))(C:Si)(fp:List Si)(s:Sw)(H:Hp)(E:Se->Sw->Prop):Cx where
 prog:=X.prog
 w:=X.w
 K:=X.K
 mg:=X.mg
 base:=X.base
 A:=X.A
 N:=N
 s₀:=s
 H₀:=H
 env:=compEnvC scope cl C X.env
 outer:=X.stack
 stack:=X.stack
 ex:=fp
 fn:=λ_=>false
 calm:=X.calm
 pn:=[]
 xe:=E
def wz(XN N:List Str)(names:List (Str×Td))(ix:List (Option Nat)):Bool:=
 decide (ix.length=N.length)&&(N.zip ix).all λp=>match p.2 with
  |some i=>decide (XN[i]?=some p.1)&&decide (names.lookup p.1=some .free)
  |none=>true
def inBlock(ix:List (Option Nat))(σ:St):St:=ix.map λo=>match o with
 |some i=>(σ[i]?).getD none
 |none=>none
def wz.len{XN N:List Str}{names:List (Str×Td)}{ix:List (Option Nat)}(h:wz XN N names ix=true):ix.length=N.length:=by
 unfold wz at h;rw[Pn]at h;exact of_decide_eq_true h.1
def wz.at_{XN N:List Str}{names:List (Str×Td)}{ix:List (Option Nat)}(h:wz XN N names ix=true){j i:Nat}{x:Str}(h1:N[j]?=some x)(h2:ix[j]?=some (some i)):XN[i]?=some x/\names.lookup x=some .free:=by
 unfold wz at h;rw[Pn]at h;have hm:(x,some i)∈N.zip ix:=by
  have e:(N.zip ix)[j]?=some (x,some i):=by rw[List.getElem?_zip_eq_some];exact⟨h1,h2⟩
  exact Pj e
 have q:=List.all_eq_true.mp h.2 _ hm;simp only[Pn]at q;exact⟨of_decide_eq_true q.1,of_decide_eq_true q.2⟩
def mS{env:Env}:∀{names:List (Str×Td)}{x:Str}{k:Td},
  (names.map λ(n,k)=>if(k==NameKind.free&&env.scope.kind==.function&&env.kindOf n==some .cell)then(n,NameKind.cell)else(n,k)).lookup x=some k->
  names.lookup x=some k\/(names.lookup x=some .free/\k=.cell)
 |[],_,_,h=>by simp at h
 |(n,k0)::r,x,k,h=>by
  have ih:=@mS env r x k
  replace h:List.lookup x ((if(k0==NameKind.free&&env.scope.kind==.function&&env.kindOf n==some .cell)=true then(n,NameKind.cell)else(n,k0))::(r.map λ(n,k)=>if(k==NameKind.free&&env.scope.kind==.function&&env.kindOf n==some .cell)then(n,NameKind.cell)else(n,k)))=some k:=h
  by_cases hc:(k0==NameKind.free&&env.scope.kind==.function&&env.kindOf n==some .cell)=true
  ·rw[if_pos hc]at h;have hk0:k0=.free:=by
    simp only[Pn]at hc
    simpa using hc.1.1
   cases hx:x==n with
   |true=>
    simp only[PC,hx]at h;simp only[PC,hx];cases h;exact .inr ⟨by rw[hk0],rfl⟩
   |false=>
    simp only[PC,hx]at h ⊢;exact ih h
  ·rw[if_neg hc]at h;cases hx:x==n with
   |true=>
    simp only[PC,hx]at h ⊢;exact .inl h
   |false=>
    simp only[PC,hx]at h ⊢;exact ih h
def IT(X:Cx)(ifs:List Sz)(t:TT):Prop:=
 ∀(pins:List (Si×Obj))(s:Sw)(σ:St)(H:Hp)(Q:Bool->Hp->Prop),Inv X pins σ H s->t σ H Q->
  Sy (model X.prog X.w) X.A (forIn ifs true λc r=>if r=true then do let ok<-isTrue c X.env (eval c X.env);pure (ForInStep.yield ok)else pure (ForInStep.yield r)) (TP X pins σ Q) X.xe s
def JT:TT:=λ_ H Q=>Q true H
def Gb{X:Cx}:IT X [] JT:=λ_ _ _ H _ I h=>wpAny_tests_nil ⟨H,I,h⟩
def G2{X:Cx}{c:Sz}{t:TT}(h:PT X c t):IT X [c] t:=λpins s σ H Q I q=>wpAny_tests_one (h pins s σ H Q I q)
def nI{prog:Sg}{w:Sf}{A:Sv}{R:Result->Sw->Prop}{s:Sw}{elt target iter:Sz}{ifs:List Sz}{scope:Sx}{pos:Pos}{it acc:Se}{env:Env}(I:Nat->Sw->Prop)
  (turn:∀ n s,I n s->Sy (model prog w) A (pyNext it) (fun r s₁=>match r with
   |none=>R (.ok .next) s₁
   |some v=>Sy (model prog w) A (letOwnedTupleGo target it v) (λ_ s₁'=>Sy (model prog w) A (assign target env v) (λ_ s₂=>
     Sy (model prog w) A (forIn ifs true λc r=>if r=true then do let ok<-isTrue c env (eval c env);pure (ForInStep.yield ok)else pure (ForInStep.yield r)) (λok s₃=>
      if ok=true then Sy (model prog w) A (eval elt env) (λx s₄=>
       Sy (model prog w) A (call (.builtin "list.append") [acc,x]) (λ_ s₅=>∃m,m<n/\I m s₅) (notedBy (model prog w) A env λe s'=>R (.error e) s') s₄) (notedBy (model prog w) A env λe s'=>R (.error e) s') s₃
      else∃m,m<n/\I m s₃) (notedBy (model prog w) A env λe s'=>R (.error e) s') s₂) (notedBy (model prog w) A env λe s'=>R (.error e) s') s₁') (notedBy (model prog w) A env λe s'=>R (.error e) s') s₁) (notedBy (model prog w) A env λe s'=>R (.error e) s') s)
  (n:Nat) (h:I n s):
  S0 (model prog w) A (.compLoop (.ListComp elt [⟨target,iter,ifs,0⟩] scope pos) 0 it acc env) R s:=by
 refine codeAny_loop rfl I (λn s hI=>?_) n h;show Sy _ A ((compTurn (.ListComp elt [⟨target,iter,ifs,0⟩] scope pos) 0 it acc env).onRaise (λx=>do noteFrame x env;theTreesLotGoes x)) _ _ s;refine wpAny_noted ?_;rw[compTurn_list];refine SK (Tw (SK (SE (turn n s hI) (λr s₁ h₁=>?_) λ_ _ h'=>h')));cases r with
 |none=>exact SJ h₁
 |some v=>
  refine SK (SE h₁ (λ_ s₁' h₁'=>?_) λ_ _ h'=>h');refine SK (SE h₁' (λ_ s₂ h₂=>SK (SE h₂ (λok s₃ h₃=>?_) λ_ _ h'=>h')) λ_ _ h'=>h');cases ok with
  |false=>exact SJ ⟨rfl,h₃⟩
  |true=>
   exact SK (SK (SE h₃ (λx s₄ h₄=>SK (SE h₄ (λ_ s₅ h₅=>SJ (SJ ⟨rfl,h₅⟩)) λ_ _ h'=>h')) λ_ _ h'=>h'))
def LR(wi:TI)(g:TG)(tc:TT)(te:TE)(ix:List (Option Nat)):TE:=λσ H Q=>
 wi σ H λJ H1=>∀D,H1 D=none->∃W:Nat->Nat->St->Hp->Prop,(∃m,W 0 m (inBlock ix σ) (upd H1 D (.lst [])))/\
  ∀i m σ' H',W i m σ' H'->(J.stop i H'/\Q (.ref D) H') \/
   (J.go i H'/\∀ x H2,J.yld i H' x H2->g x σ' H2 fun σ3 H3=>tc σ3 H3 fun b H4 =>
    if b=true then te σ3 H4 λv H5=>∃acc,H5 D=some (.lst acc)/\acc.length<Sn/\∃m',m'<m/\W (i+1) m' σ3 (upd H5 D (.lst (acc++[v])))
    else∃m',m'<m/\W (i+1) m' σ3 H4)
section
variable{X:Cx}{elt tg iter:Sz}{ifs:List Sz}{scope:Sx}{pos:Pos}{N:List Str}{ix:List (Option Nat)}{wi:TI}{g:TG}{tc:TT}{te:TE}
def tZ{pins:List (Si×Obj)}{σ:St}{s2:Sw}{H2:Hp}{it:Si}{fp:List Si}{tn:Nat->Sl->Prop}{J:It}{Q:V->Hp->Prop}{E:Se->Sw->Prop}{RR:Se->Si->Result->Sw->Prop}
    (hc:X.calm=true) (hcell:∀y∈scope.names,y.2≠.cell) (hkind:scope.kind=.function)
    (hfr:∀y∈scope.names,y.2=.free->X.env.scope.names.lookup y.1=some .cell\/X.env.scope.names.lookup y.1=some .free)
    (hix:wz X.N N scope.names ix=true)
    (hb:∀cl C fp s H E,PG (dh X scope N cl C fp s H E) tg g/\IT (dh X scope N cl C fp s H E) ifs tc/\PE (dh X scope N cl C fp s H E) elt te)
    (I2:Inv X pins σ H2 s2) (T:Turn X.prog X.w X.K tg J fp it tn) (st2:tn 0 s2.heap) (f2:∀b∈fp,vc X pins H2 b)
    (q:∀ D,H2 D=none->∃ W:Nat->Nat->St->Hp->Prop,(∃ m,W 0 m (inBlock ix σ) (upd H2 D (.lst []))) /\
      ∀i m σ' H',W i m σ' H'->(J.stop i H'/\Q (.ref D) H') \/
        (J.go i H'/\∀ x H3,J.yld i H' x H3->g x σ' H3 fun σ3 H3=>tc σ3 H3 fun b H4 =>
          if b=true then te σ3 H4 λv H5=>∃acc,H5 D=some (.lst acc)/\acc.length<Sn/\∃m',m'<m/\W (i+1) m' σ3 (upd H5 D (.lst (acc++[v])))
          else∃m',m'<m/\W (i+1) m' σ3 H4))
    (hRR:∀D C H' s' m,H2 D=none->s2.heap.objs.size<=C->H' C=none->s'.heap.Ns C m->(∀h',RK C s'.heap h'->Inv X pins σ H' {s' with heap:=h'})->Q (.ref D) H'->RR (.ref D) C (.ok .next) s'):
    Sy (model X.prog X.w) X.A (newList []) (λacc s₃=>Sy (model X.prog X.w) X.A (newFunctionEnv scope X.env.globals (eJ X.env.cells scope.names []) [] X.env.qual none .none (some X.env)) (λcenv s₄=>
      S0 (model X.prog X.w) X.A (.compStart (.ListComp elt [⟨tg,iter,ifs,0⟩] scope pos) 0 (.ref it) acc {cenv with scope:=relabel scope X.env}) (RR acc cenv.locals) s₄) E s₃) E s2:=by
  refine Tq (wpAny_newFunctionEnv hcell (by intro y hy;simp at hy) (λh₁ hns₁ hsb₁=>?_) hkind);dsimp only at hns₁ hsb₁ ⊢;have I3:Inv X pins σ (upd H2 s2.heap.objs.size (.lst [])) {s2 with heap:=s2.heap.push {cls:=.type "list",dict:=none,data:=.seq ([]:List Se).toArray},toks:=s2.toks}:=I2.lnew (its:=[]) (t':=s2.toks) .nil (O3 _);generalize hs3:({s2 with heap:=s2.heap.push {cls:=.type "list",dict:=none,data:=.seq ([]:List Se).toArray},toks:=s2.toks}:Sw)=s3 at I3;have eh3:s2.heap.push {cls:=.type "list",dict:=none,data:=.seq ([]:List Se).toArray}=s3.heap:=by rw[<-hs3]
  rw[eh3]at hns₁ hsb₁ ⊢;have hC3:s3.heap.objs.size=s2.heap.objs.size+1:=by rw[<-eh3,RN]
  have hD:H2 s2.heap.objs.size=none:=I2.fresh;obtain⟨W,⟨m0,w0⟩,turn⟩:=q s2.heap.objs.size hD;generalize hH3:upd H2 s2.heap.objs.size (.lst [])=H3 at I3 w0;have old:∀b o,s3.heap.get? b=some o->h₁.get? b=some o:=λb o e=>hsb₁.extBut b o (OD (RH e)) (RL _ e);have fpH3:∀b∈fp,H3 b=none:=λb hb'=>by
    rw[<-hH3,bp]
    ·exact(f2 b hb').1
    · obtain⟨o,e,_⟩:=T.obj _ _ st2 b hb'
      exact OD (RH e)
  have fpLt:∀b∈fp,b<s3.heap.objs.size:=λb hb'=>by
    obtain⟨o,e,_⟩:=T.obj _ _ st2 b hb';rw[hC3];exact PH (RH e)
  have hfree:∀p∈scope.names,p.2=.free->∃c,X.env.cells.lookup p.1=some c:=λp hp hk=>I2.ok.has p.1 (hfr p hp hk);have csub:∀x c,(eJ X.env.cells scope.names []).lookup x=some c->X.env.cells.lookup x=some c:=nQ scope.names [] (λx c e=>by simp at e);have names':∀x k,(relabel scope X.env).names.lookup x=some k->scope.names.lookup x=some k\/(scope.names.lookup x=some .free/\k=.cell):=λx k h=>mS h;have ok:(dh X scope N (eJ X.env.cells scope.names []) s3.heap.objs.size fp s3 H3 (notedBy (model X.prog X.w) X.A (compEnvC scope (eJ X.env.cells scope.names []) s3.heap.objs.size X.env) λe s'=>RR (.ref s2.heap.objs.size) s3.heap.objs.size (.error e) s')).Ok:=
    { mod:=I3.ok.mod
      kind:=hkind
      glob:=I3.ok.glob
      blt:=I3.ok.blt
      above:=OT _
      inj:=λx y c h1 h2=>I3.ok.inj x y c (csub x c h1) (csub y c h2)
      has:=λx hx=>by
        have fr:scope.names.lookup x=some .free:=by
          rcases hx with hx|hx
          · rcases names' x .cell hx with h|⟨h,_⟩
            ·exact absurd rfl (hcell _ (PySem.mem_of_lookup h))
            ·exact h
          · rcases names' x .free hx with h|⟨_,h⟩
            ·exact h
            ·cases h
        have hm:=PySem.mem_of_lookup fr;exact Option.isSome_iff_exists.mp (kK scope.names [] x hm (hfree _ hm rfl))
      cab:=λx c h _=>by cases h
      hd:=I3.ok.hd
      frames:=I3.ok.frames
      stk:=.inl rfl
      exf:=λb hb'=>⟨OD (fpLt b hb'),λx c e=>(f2 b hb').2.2.2.2.1 x c (csub x c e)⟩
      bs:=λb o e=>I3.bs b o e
      bsz:=OG I3.ok.bsz I3.sz
      noex:=λb o e hb'=>by
        obtain⟨_,_,_,h4,_⟩:=f2 b hb';rcases h4 with h4|h4
        ·exact I3.ok.noex b o e h4
        ·exact absurd (OB (RH (I3.ok.bs b o e).1) h4) (OC _)
      exfs:=λb hb' hs=>by
        obtain⟨_,h2,h3,_⟩:=f2 b hb';rcases List.mem_cons.mp (I3.stkSub b hs)with e|e
        ·exact h2 e
        ·exact h3 e
      funs:=I3.stack
      frf:=λb hb'=>I3.stkFree b hb'}
  generalize hE:(notedBy (model X.prog X.w) X.A (compEnvC scope (eJ X.env.cells scope.names []) s3.heap.objs.size X.env) λe s'=>RR (.ref s2.heap.objs.size) s3.heap.objs.size (.error e) s')=E' at ok;obtain⟨hg,htc,hel⟩:=hb (eJ X.env.cells scope.names []) s3.heap.objs.size fp s3 H3 E';have Istart:∀tk,Inv (dh X scope N (eJ X.env.cells scope.names []) s3.heap.objs.size fp s3 H3 E') [] (inBlock ix σ) H3 {s3 with heap:=h₁,toks:=tk}:=λtk=>by
    refine⟨ok,rfl,I3.bare,Un.kept old,⟨_,hns₁,λj x v e1 e2 _=>?_⟩,λx c e=>?_,I3.fresh,λx c e=>I3.freeC x c (csub x c e),λp hp=>absurd (show p∈([]:List (Si×Obj))from hp) (by simp),I3.hok.kept old,?_⟩
    ·
      unfold inBlock at e2;rw[Ph]at e2;cases q1:ix[j]? with
      |none=>rw[q1]at e2;simp at e2
      |some o=>
        rw[q1]at e2;cases o with
        |none=>simp at e2
        |some i=>
          obtain⟨n1,n2⟩:=wz.at_ hix e1 q1;have e2':(σ[i]?).getD none=some v:=Option.some.inj e2;have e3:σ[i]?=some (some v):=by
            cases q2:σ[i]? with
            |none=>rw[q2]at e2';simp at e2'
            |some o2=>rw[q2]at e2';simpa using e2'
          obtain⟨m,hn,hl⟩:=I3.loc;have hm:=PySem.mem_of_lookup n2;have hk:=hfr _ hm rfl;have hv:Ig X.env.scope x:=by
            rcases hk with hk|hk
            ·exact .inr (.inl hk)
            ·exact .inr (.inr hk)
          obtain⟨u,r,l⟩:=hl i x v n1 e3 hv;refine⟨u,r,.inr ?_⟩;rcases l with⟨kl,_⟩|⟨_,c,hcx,hcell'⟩
          · have kl':X.env.scope.names.lookup x=some .local:=kl
            rcases hk with hk|hk
            ·rw[kl']at hk;cases hk
            ·rw[kl']at hk;cases hk
          · obtain⟨c',hc'⟩:=Option.isSome_iff_exists.mp (kK (cells:=X.env.cells) scope.names [] x hm ⟨c,hcx⟩)
            have ec:c'=c:=Option.some.inj ((csub x c' hc').symm.trans hcx);subst ec;refine⟨?_,c',hc',?_⟩
            ·
              show(relabel scope X.env).names.lookup x=some .cell\/(relabel scope X.env).names.lookup x=some .free;have gen:∀names:List (Str×Td),names.lookup x=some .free->((names.map λ(n,k)=>if(k==NameKind.free&&X.env.scope.kind==.function&&X.env.kindOf n==some .cell)then(n,NameKind.cell)else(n,k)).lookup x=some .cell\/(names.map λ(n,k)=>if(k==NameKind.free&&X.env.scope.kind==.function&&X.env.kindOf n==some .cell)then(n,NameKind.cell)else(n,k)).lookup x=some .free):=by
                intro names
                induction names with
                |nil=>intro h;simp at h
                |cons p r ih=>
                  obtain⟨n,k⟩:=p;intro h;show List.lookup x ((if(k==NameKind.free&&X.env.scope.kind==.function&&X.env.kindOf n==some .cell)=true then(n,NameKind.cell)else(n,k))::_)=_\/List.lookup x ((if(k==NameKind.free&&X.env.scope.kind==.function&&X.env.kindOf n==some .cell)=true then(n,NameKind.cell)else(n,k))::_)=_;cases hx:x==n with
                  |true=>
                    simp only[PC,hx]at h;by_cases hcc:(k==NameKind.free&&X.env.scope.kind==.function&&X.env.kindOf n==some .cell)=true
                    ·rw[if_pos hcc];left;simp only[PC,hx]
                    ·rw[if_neg hcc];right;simp only[PC,hx];exact h
                  |false=>
                    simp only[PC,hx]at h;by_cases hcc:(k==NameKind.free&&X.env.scope.kind==.function&&X.env.kindOf n==some .cell)=true
                    ·rw[if_pos hcc];simp only[PC,hx];exact ih h
                    ·rw[if_neg hcc];simp only[PC,hx];exact ih h
              exact gen scope.names n2
            ·exact hcell'.keeps old
    · obtain⟨v,z⟩:=I3.cell x c (csub x c e)
      exact⟨v,z.keeps old⟩
    · show(inBlock ix σ).length=N.length
      unfold inBlock;rw[O0];exact wz.len hix
  have stat:∀{H':Hp},(∀b∈fp,H' b=none)->∀b∈fp,vc (dh X scope N (eJ X.env.cells scope.names []) s3.heap.objs.size fp s3 H3 E') [] H' b:=λhn b hb'=>
    ⟨hn b hb',(ok.exf b hb').1,ok.exfs b hb',.inl hb',(ok.exf b hb').2,λp hp=>absurd (show p∈([]:List (Si×Obj))from hp) (by simp)⟩
  have tn1:tn 0 h₁:=T.keep _ _ _ st2 λb hb' o e=>old b o (by rw[<-eh3];exact RL _ e);have loop:∀tk,S0 (model X.prog X.w) X.A (.compLoop (.ListComp elt [⟨tg,iter,ifs,0⟩] scope pos) 0 (.ref it) (.ref s2.heap.objs.size) (compEnvC scope (eJ X.env.cells scope.names []) s3.heap.objs.size X.env))
      (RR (.ref s2.heap.objs.size) s3.heap.objs.size) {s3 with heap:=h₁,toks:=tk}:=by
    intro tk;refine nI (λn s'=>∃i σ' H',Inv (dh X scope N (eJ X.env.cells scope.names []) s3.heap.objs.size fp s3 H3 E') [] σ' H' s'/\tn i s'.heap/\(∀b∈fp,H' b=none)/\W i n σ' H') ?_ m0 ⟨0,_,_,Istart tk,tn1,fpH3,w0⟩;rintro n s5 ⟨i,σ5,H5,I5,st5,fr5,w5⟩;rw[hE];rcases turn i n σ5 H5 w5 with⟨stop,qn⟩|⟨go,step⟩
    · refine eZ (T.done (dh X scope N (eJ X.env.cells scope.names []) s3.heap.objs.size fp s3 H3 E') rfl rfl rfl hc i [] s5 σ5 H5 _ I5 (stat fr5) st5 stop) λr s6 ⟨hr,I6⟩=>?_
      subst hr;obtain⟨m6,hn6,_⟩:=I6.loc;refine hRR s2.heap.objs.size s3.heap.objs.size H5 s6 m6 hD (by rw[hC3];exact O6 _) I6.free hn6 (λh' sb=>?_) qn;have ne:∀b o,s3.heap.get? b=some o->b≠s3.heap.objs.size:=λb o e=>OD (RH e);refine I3.call' (s':={s6 with heap:=h'}) (H':=H5) (ch:=fp) I6.os ⟨λb o e n hb' hx=>?_,λb o e n hb' hx=>?_,λb o e n hx=>?_,λb o e hx=>?_,I6.base.tups,I6.base.frzs,I6.base.tbls⟩ ?_ I6.bare λb hb'=>?_
      ·exact(sb.2 b (ne b o e)).trans (I6.base.keep b o e n hb' hx)
      · obtain⟨sl,e1⟩:=I6.base.slot b o e n hb' hx
        exact⟨sl,(sb.2 b (ne b o e)).trans e1⟩
      ·exact I6.base.free b o e n hx
      · obtain⟨o',e1⟩:=I6.base.there b o e hx
        exact⟨o',(sb.2 b (ne b o e)).trans e1⟩
      · intro b ob e
        have hfreeC:H5 s3.heap.objs.size=none:=I6.free;refine(I6.hok b ob e).stay (λc v hcc q=>(sb.2 c ?_).trans q) (λ_ q=>q) λ_ _ q=>q;rintro rfl;rcases hcc with rfl|hcc
        ·rw[hfreeC]at e;cases e
        ·rw[hfreeC]at hcc;cases hcc
      · obtain⟨_,h2',_,h4',h5',h6'⟩:=f2 b hb'
        exact⟨h4',h2',h5',h6'⟩
    · refine eZ (T.item (dh X scope N (eJ X.env.cells scope.names []) s3.heap.objs.size fp s3 H3 E') rfl rfl rfl hc i [] s5 σ5 H5 _ I5 (stat fr5) st5 go) λr s6 ⟨u,hr,h6⟩=>?_
      subst hr;refine eZ h6 λ_ s7 ⟨x,H7,I7,r7,y7,st7,fr7⟩=>?_;have I7':=I7.pinned (stat fr7) (T.obj _ _ st7);refine eZ (hg _ s7 σ5 H7 x u _ I7' r7 (step x H7 y7)) λ_ s8 ⟨σ8,H8,I8,q8⟩=>?_;refine eZ (htc _ s8 σ8 H8 _ I8 q8) λb s9 ⟨H9,I9,q9⟩=>?_;have again:∀{σ':St}{H':Hp}{s':Sw}{m':Nat},Inv (dh X scope N (eJ X.env.cells scope.names []) s3.heap.objs.size fp s3 H3 E') ([]++uE fp s7.heap) σ' H' s'->m'<n->W (i+1) m' σ' H'->
          ∃m,m<n/\∃i σ' H',Inv (dh X scope N (eJ X.env.cells scope.names []) s3.heap.objs.size fp s3 H3 E') [] σ' H' s'/\tn i s'.heap/\(∀b∈fp,H' b=none)/\W i m σ' H':=λ{σ' H' s' m'} I' hm w'=>by
        refine⟨m',hm,i+1,σ',H',I'.unpinned,T.keep _ _ _ st7 λb hb' o e=>(I'.pin (b,o) (OU _ (OU _ (lU hb' e)))).1,λb hb'=>?_,w'⟩;obtain⟨o,e,d⟩:=T.obj _ _ st7 b hb';exact(I'.pin (b,o) (OU _ (OU _ (lU hb' e)))).2.1
      cases b with
      |false=>
        rw[if_neg OX]at q9 ⊢;obtain⟨m',hm,w9⟩:=q9;exact again I9 hm w9
      |true=>
        rw[if_pos rfl]at q9 ⊢;refine eZ (hel _ s9 σ8 H9 _ I9 q9) λy s10 ⟨v,H10,I10,r10,q10⟩=>?_;obtain⟨acc,ha,hz,m',hm,w10⟩:=q10;refine eZ (eI _ s10 σ8 H10 (.ref s2.heap.objs.size) [v] (.ref s2.heap.objs.size) [y] (λ_ H'=>H'=upd H10 s2.heap.objs.size (.lst (acc++[v]))) I10 rfl (.cons r10 .nil) ⟨_,acc,v,rfl,rfl,ha,hz,rfl⟩) λ_ s11 ⟨_,H11,I11,_,e11⟩=>?_;subst e11;exact again I11 hm w10
  subst hs3;exact codeAny_compStart_list (loop _) (T.self _ 0 _ _ _ tn1 (loop _))
def Ho(hc:X.calm=true)(hcell:∀y∈scope.names,y.2≠.cell)(hkind:scope.kind=.function)(hnames:∀y∈scope.names,y.2=.local->scope.names.lookup y.1=some .local)
  (hfr:∀y∈scope.names,y.2=.free->X.env.scope.names.lookup y.1=some .cell\/X.env.scope.names.lookup y.1=some .free)
  (hix:wz X.N N scope.names ix=true) (hi:PI X tg iter wi)
  (hb:∀cl C fp s H E,PG (dh X scope N cl C fp s H E) tg g/\IT (dh X scope N cl C fp s H E) ifs tc/\PE (dh X scope N cl C fp s H E) elt te)
  (hs:∀x,SN iter X.env x=pure x:=by intro _;rfl):PE X (.ListComp elt [⟨tg,iter,ifs,0⟩] scope pos) (LR wi g tc te ix):=by
 intro pins s σ H Q I h;rw[eval_ListComp];refine Tx (use:=none) rfl hs (pE λp hp hk=>I.ok.has p.1 (hfr p hp hk)) hkind hnames (eZ (hi pins s σ H _ I h) λv s1 h1=>eZ h1 λitv s2 h2=>?_);obtain⟨it,fp,tn,J,H2,e,I2,T,st2,f2,q⟩:=h2;subst e;refine tZ (Q:=Q) (RR:=λacc C=>compPost (model X.prog X.w) X.A X.xe none (EP X pins σ Q) acc C) hc hcell hkind hfr hix hb I2 T st2 f2 q ?_;intro D C H' s' m _ _ _ hn hI hq;exact⟨m,hn,λh' sb=>⟨.ref D,H',hI h' sb,rfl,hq⟩⟩
def Hv{i:Nat}{y:Str}{py spos:Pos}(hN:X.N.Nodup)(hi':X.N[i]?=some y)(hx:Loc X.env.scope y)
  (hc:X.calm=true) (hcell:∀y∈scope.names,y.2≠.cell) (hkind:scope.kind=.function) (hnames:∀y∈scope.names,y.2=.local->scope.names.lookup y.1=some .local)
  (hfr:∀y∈scope.names,y.2=.free->X.env.scope.names.lookup y.1=some .cell\/X.env.scope.names.lookup y.1=some .free)
  (hix:wz X.N N scope.names ix=true) (hi:PI X tg iter wi)
  (hb:∀cl C fp s H E,PG (dh X scope N cl C fp s H E) tg g/\IT (dh X scope N cl C fp s H E) ifs tc/\PE (dh X scope N cl C fp s H E) elt te)
  (hsw:swapsWith (.ListComp elt [⟨tg,iter,ifs,0⟩] scope pos) (some (.Name y py)) spos.line X.env=pure true:=by rfl)
  (hs:∀x,SN iter X.env x=pure x:=by intro _;rfl)
  (hf:X.fn y=true\/X.env.scope.names.lookup y=some .local:=by first|exact .inl rfl|exact .inr rfl|assumption):
  PS X (.Assign [.Name y py] (.ListComp elt [⟨tg,iter,ifs,0⟩] scope pos) spos) (DH (LR wi g tc te ix) (v8 i)):=by
 intro pins s σ H D0 I h;rw[exec_Assign_Name_used _ _ _ _ hsw];refine SK (Tw (SK ?_));show Sy _ X.A (do let _<-comprehension (.ListComp elt [⟨tg,iter,ifs,0⟩] scope pos) scope X.env _ (newList []) false (eval iter X.env) (some (assign (.Name y py) X.env))) _ _ s;refine SK (eZ (Tx (use:=some (assign (.Name y py) X.env)) (Q:=λ_ s'=>SP X pins D0 .next s') rfl hs (pE λp hp hk=>I.ok.has p.1 (hfr p hp hk)) hkind hnames
  (eZ (hi pins s σ H _ I h) λv s1 h1=>eZ h1 λitv s2 h2=>?_)) λ_ s' hq=>SJ (SJ hq))
 obtain⟨it,fp,tn,J,H2,e,I2,T,st2,f2,q⟩:=h2;subst e;refine tZ (Q:=λv H'=>v8 i v σ H' D0.nx) (RR:=λacc C=>compPost (model X.prog X.w) X.A X.xe (some (assign (.Name y py) X.env)) (λ_ s'=>SP X pins D0 .next s') acc C) hc hcell hkind hfr hix hb I2 T st2 f2 q ?_;intro D C H' s' m _ hC hfree hn hI hq;have I':Inv X pins σ H' s':=hI s'.heap (.refl ..);have nL:C≠X.env.locals:=OS (OB I2.lt hC);have nC:∀x c,X.env.cells.lookup x=some c->c≠C:=λx c e z=>by
  obtain⟨v,q⟩:=I2.cell x c e;exact absurd (OB q.lt (by rw[z];exact hC)) (OC _)
 have nP:∀p∈X.pn++pins,p.1≠C:=λp hp z=>absurd (OB (RH (I2.pin p hp).1) (by rw[z];exact hC)) (OC _);show Sy _ X.A (assign (.Name y py) X.env (.ref D)) _ _ _;refine wpAny_assign_Name (vH I' hN hi' hx (v:=.ref D) rfl (λs'' I'' ch=>?_) hf);obtain⟨a,sb,ha⟩:=ch;have hCa:C≠a:=by
  rcases ha with ha|ha
  ·rw[ha];exact nL
  ·exact Ne.symm (nC y a ha)
 refine⟨m,hn.sameBut sb hCa,λh' sb'=>⟨_,H',?_,hq⟩⟩;exact I''.turned (t':=s''.toks) (λb o hb' e=>(sb'.2 b hb').trans e) hfree nL (.inr (OG I2.sz hC)) nC nP
end
end L2
namespace TG
open PySem PySem.Spec L2
inductive D where
 |non|bl (b:Bool)|int (i:Int)|str (x:Str)|tup (xs:List D)|lst (xs:List D)
 |dct (ks vs:List D)|obj (c:Str) (fs:List Str) (vs:List D)|exc (c:Str) (fs:List Str) (vs:List D)
def bQ:Key->D
 |.inl i=>.int i
 |.inr x=>.str x
def clsAt(K:Q7)(c:Str)(C:Si):Prop:=Rw K Sr c=some (some (.ref C))
def Mp(C a:Si)(dx:Option Si):(Si->Prop)->Sl->Prop:=λ_ h=>∃o,h.get? a=some o/\o.cls=.ref C/\o.dict=dx
mutual
def dD(K:Q7)(H:Hp):D->V->Prop
 |.non,v=>v=.non
 |.bl b,v=>v=.bl b
 |.int i,v=>v=.int i
 |.str x,v=>v=.str x
 |.tup xs,v=>∃a vs,v=.ref a/\H a=some (.tup vs)/\bx K H xs vs
 |.lst xs,v=>∃a vs,v=.ref a/\o9 K H a vs/\bx K H xs vs
 |.dct ks ds,v=>∃a vs,v=.ref a/\bx K H ds vs/\((∃kvs:List (Key×V),H a=some (.dK kvs)/\ks=kvs.map (λp=>bQ p.1)/\vs=kvs.map (·.2)) \/
   (∃kvs:List (List Key×V),H a=some (.dT kvs)/\ks=kvs.map (λp=>.tup (p.1.map bQ))/\vs=kvs.map (·.2)) \/
   ∃(kvs:List (List Key×V))(o:Obj),H a=some (.frz o (.dT kvs))/\ks=.non::kvs.map (λp=>.tup (p.1.map bQ))/\vs=kvs.map (·.2))
 |.obj c fs ds,v=>∃a vs,v=.ref a/\bx K H ds vs/\fs.length=vs.length/\∃C dx,clsAt K c C/\H a=some (.ins C dx (fs.zip vs))
 |.exc c fs ds,v=>∃a vs,v=.ref a/\bx K H ds vs/\fs.length=vs.length/\∃C dx,clsAt K c C/\H a=some (.ext (Mp C a dx))/\(fs=[]\/∃d,dx=some d/\H d=some (.xd (fs.zip vs)))
def bx(K:Q7)(H:Hp):List D->List V->Prop
 |[],vs=>vs=[]
 |x::xs,vs=>∃v r,vs=v::r/\dD K H x v/\bx K H xs r
end
def B5{K:Q7}{H H':Hp}{a:Si}{xs:List V}(e:bT H H')(h:qv K H a xs):qv K H' a xs:=by
 rcases h with(h|⟨o,h⟩)|h
 ·exact .inl (.inl (e _ _ h))
 ·exact .inl (.inr ⟨o,e _ _ h⟩)
 ·exact .inr h
def cE{K:Q7}{H H':Hp}{a:Si}{xs:List V}(e:bT H H')(h:H a=some (.tup xs)):qv K H' a xs:=qv.of (e _ _ h)
mutual
def dD.mono{K:Q7}{H H':Hp}(e:bT H H'):∀{d:D}{v:V},dD K H d v->dD K H' d v
 |.non,_,h=>by unfold dD at h ⊢;exact h
 |.bl _,_,h=>by unfold dD at h ⊢;exact h
 |.int _,_,h=>by unfold dD at h ⊢;exact h
 |.str _,_,h=>by unfold dD at h ⊢;exact h
 |.tup xs,_,h=>by
  unfold dD at h ⊢;obtain⟨a,vs,e1,h1,h2⟩:=h;exact⟨a,vs,e1,e _ _ h1,bx.mono e h2⟩
 |.lst xs,_,h=>by
  unfold dD at h ⊢;obtain⟨a,vs,e1,h1,h2⟩:=h;exact⟨a,vs,e1,e.seq h1,bx.mono e h2⟩
 |.dct _ ds,_,h=>by
  unfold dD at h ⊢;obtain⟨a,vs,e1,h1,h2⟩:=h;refine⟨a,vs,e1,bx.mono e h1,?_⟩;rcases h2 with⟨kvs,h2,h3⟩|⟨kvs,h2,h3⟩|⟨kvs,o,h2,h3⟩
  ·exact .inl ⟨kvs,e _ _ h2,h3⟩
  ·exact .inr (.inl ⟨kvs,e _ _ h2,h3⟩)
  ·exact .inr (.inr ⟨kvs,o,e _ _ h2,h3⟩)
 |.obj _ _ ds,_,h=>by
  unfold dD at h ⊢;obtain⟨a,vs,e1,h1,h2,C,dx,h3,h4⟩:=h;exact⟨a,vs,e1,bx.mono e h1,h2,C,dx,h3,e _ _ h4⟩
 |.exc _ _ ds,_,h=>by
  unfold dD at h ⊢;obtain⟨a,vs,e1,h1,h2,C,dx,h3,h4,h5⟩:=h;exact⟨a,vs,e1,bx.mono e h1,h2,C,dx,h3,e _ _ h4,h5.imp id λ⟨d,q1,q2⟩=>⟨d,q1,e _ _ q2⟩⟩
def bx.mono{K:Q7}{H H':Hp}(e:bT H H'):∀{ds:List D}{vs:List V},bx K H ds vs->bx K H' ds vs
 |[],_,h=>by unfold bx at h ⊢;exact h
 |x::xs,_,h=>by
  unfold bx at h ⊢;obtain⟨v,r,e1,h1,h2⟩:=h;exact⟨v,r,e1,dD.mono e h1,bx.mono e h2⟩
end
section
variable{K:Q7}{H:Hp}
def md{v:V}:dD K H .non v↔v=.non:=by unfold dD;rfl
def lM{b:Bool}{v:V}:dD K H (.bl b) v↔v=.bl b:=by unfold dD;rfl
def gG{i:Int}{v:V}:dD K H (.int i) v↔v=.int i:=by unfold dD;rfl
def gJ{x:Str}{v:V}:dD K H (.str x) v↔v=.str x:=by unfold dD;rfl
def cZ{xs:List D}{v:V}:dD K H (.tup xs) v↔∃a vs,v=.ref a/\H a=some (.tup vs)/\bx K H xs vs:=by unfold dD;rfl
def cX{xs:List D}{v:V}:dD K H (.lst xs) v↔∃a vs,v=.ref a/\o9 K H a vs/\bx K H xs vs:=by unfold dD;rfl
def LX{ks ds : List D}{v : V}: dD K H (.dct ks ds) v ↔ ∃ a vs, v = .ref a /\ bx K H ds vs /\ ((∃ kvs : List (Key × V), H a = some (.dK kvs) /\ ks = kvs.map (fun p => bQ p.1) /\ vs = kvs.map (·.2)) \/
      (∃kvs:List (List Key×V),H a=some (.dT kvs)/\ks=kvs.map (λp=>.tup (p.1.map bQ))/\vs=kvs.map (·.2)) \/
      ∃(kvs:List (List Key×V))(o:Obj),H a=some (.frz o (.dT kvs))/\ks=.non::kvs.map (λp=>.tup (p.1.map bQ))/\vs=kvs.map (·.2)):=by unfold dD;rfl
def LK{c:Str}{fs:List Str}{ds:List D}{v:V}:dD K H (.obj c fs ds) v↔∃a vs,v=.ref a/\bx K H ds vs/\fs.length=vs.length/\∃C dx,clsAt K c C/\H a=some (.ins C dx (fs.zip vs)):=by unfold dD;rfl
def dA{vs:List V}:bx K H [] vs↔vs=[]:=by unfold bx;rfl
def bP{x:D}{xs:List D}{vs:List V}:bx K H (x::xs) vs↔∃v r,vs=v::r/\dD K H x v/\bx K H xs r:=by conv=>lhs;unfold bx
def bx.length:∀{ds:List D}{vs:List V},bx K H ds vs->ds.length=vs.length
 |[],_,h=>by rw[dA]at h;rw[h];rfl
 |_::xs,_,h=>by
  rw[bP]at h;obtain⟨v,r,e,_,h⟩:=h;rw[e,OY,OY,bx.length h]
def bx.get:∀{ds:List D}{vs:List V}{i:Nat}{d:D},bx K H ds vs->ds[i]?=some d->∃v,vs[i]?=some v/\dD K H d v
 |[],_,_,_,_,e=>by simp at e
 |x::xs,_,0,d,h,e=>by
  rw[bP]at h;obtain⟨v,r,rfl,h1,_⟩:=h;simp at e;subst e;exact⟨v,rfl,h1⟩
 |x::xs,_,i+1,d,h,e=>by
  rw[bP]at h;obtain⟨v,r,rfl,_,h2⟩:=h;obtain⟨w,e1,e2⟩:=bx.get (i:=i) h2 (by simpa using e);exact⟨w,by simpa using e1,e2⟩
def bx.append:∀{ds es:List D}{vs ws:List V},bx K H ds vs->bx K H es ws->bx K H (ds++es) (vs++ws)
 |[],_,_,_,h,h'=>by rw[dA]at h;subst h;exact h'
 |x::xs,_,_,_,h,h'=>by
  rw[bP]at h;obtain⟨v,r,rfl,h1,h2⟩:=h;rw[PJ,bP];exact⟨v,_,rfl,h1,bx.append h2 h'⟩
def bx.take:∀{ds:List D}{vs:List V}(n:Nat),bx K H ds vs->bx K H (ds.take n) (vs.take n)
 |_,_,0,_=>by rw[PK,PK,dA]
 |[],_,_+1,h=>by rw[dA]at h;subst h;rw[List.take_nil,List.take_nil,dA]
 |x::xs,_,n+1,h=>by
  rw[bP]at h;obtain⟨v,r,rfl,h1,h2⟩:=h;rw[PL,PL,bP];exact⟨v,_,rfl,h1,bx.take n h2⟩
def bx.drop:∀{ds:List D}{vs:List V}(n:Nat),bx K H ds vs->bx K H (ds.drop n) (vs.drop n)
 |_,_,0,h=>by rw[PN,PN];exact h
 |[],_,_+1,h=>by rw[dA]at h;subst h;rw[List.drop_nil,List.drop_nil,dA]
 |x::xs,_,n+1,h=>by
  rw[bP]at h;obtain⟨v,r,rfl,h1,h2⟩:=h;rw[PP,PP];exact bx.drop n h2
def bx.snoc{ds:List D}{vs:List V}{d:D}{v:V}(h:bx K H ds vs)(h':dD K H d v):bx K H (ds++[d]) (vs++[v]):=
 h.append (bP.mpr ⟨v,[],rfl,h',dA.mpr rfl⟩)
def bx.one{d:D}{vs:List V}(h:bx K H [d] vs):∃v,vs=[v]/\dD K H d v:=by
 rw[bP]at h;obtain⟨v,r,rfl,h1,h2⟩:=h;rw[dA]at h2;subst h2;exact⟨v,rfl,h1⟩
def bx.two{d e:D}{vs:List V}(h:bx K H [d,e] vs):∃v w,vs=[v,w]/\dD K H d v/\dD K H e w:=by
 rw[bP]at h;obtain⟨v,r,rfl,h1,h2⟩:=h;obtain⟨w,rfl,h3⟩:=h2.one;exact⟨v,w,rfl,h1,h3⟩
def wf:∀ns:List Int,bx K H (ns.map D.int) (ns.map V.int)
 |[]=>dA.mpr rfl
 |n::ns=>bP.mpr ⟨_,_,rfl,gG.mpr rfl,wf ns⟩
end
def hid(H:Hp)(O:List Si):Hp:=λb=>if b∈O then none else H b
def aU(H:Hp)(O:List Si):bT (hid H O) H:=λb o h=>by
 unfold hid at h;split at h
 ·cases h
 ·exact h
def cH{H H':Hp}{O:List Si}(e:bT H H'):bT (hid H O) (hid H' O):=λb o h=>by
 unfold hid at h ⊢;by_cases hb:b∈O
 ·rw[if_pos hb]at h;cases h
 ·rw[if_neg hb]at h ⊢;exact e b o h
def jI{H:Hp}{O O':List Si}(s:∀a∈O,a∈O'):bT (hid H O') (hid H O):=λb o h=>by
 unfold hid at h ⊢;by_cases hb:b∈O'
 ·rw[if_pos hb]at h;cases h
 ·rw[if_neg hb]at h;rw[if_neg λz=>hb (s b z)];exact h
def Fo(H:Hp):hid H []=H:=by funext b;unfold hid;simp
def wM{H:Hp}{O:List Si}{p:Si}{o:HO}(h:H p=none):bT (hid H O) (hid (upd H p o) O):=λb u q=>by
 unfold hid at q ⊢;by_cases hb:b∈O
 ·rw[if_pos hb]at q;cases q
 ·rw[if_neg hb]at q ⊢;rw[bp (bH q h)];exact q
def cI{H:Hp}{p:Si}(h:H p=none)(o:HO):bT H (upd H p o):=λb u q=>by rw[bp (bH q h)];exact q
def oY{H:Hp}{O:List Si}{p:Si}(h:p∉O):hid H O p=H p:=by unfold hid;rw[if_neg h]
def nN{H:Hp}{O:List Si}{p:Si}{o:HO}(h:p∈O):bT (hid H O) (hid (upd H p o) O):=λb u q=>by
 unfold hid at q ⊢;by_cases hb:b∈O
 ·rw[if_pos hb]at q;cases q
 ·rw[if_neg hb]at q ⊢;rw[bp (λz=>hb (by rw[z];exact h))];exact q
inductive S where
 |val (d:D)|own (d:D)|nest (d:D)
abbrev ay:=List (Option S)
def xx:HO->Prop
 |.lst _=>True
 |.dK _=>True
 |.dT _=>True
 |_=>False
class bh where
 tab:Hp->Prop
 same:∀{H H':Hp},tab H->bT H H'->tab H'
 own:∀{H:Hp}{p:Si}{o o':HO},tab H->H p=some o->xx o->tab (upd H p o')
variable[bh]
def fT(H:Hp)(O:List Si):Prop:=bh.tab H/\∀a∈O,∃o,H a=some o/\xx o
def fT.not{H:Hp}{O:List Si}(h:fT H O){p:Si}(n:H p=none):p∉O:=λz=>by
 obtain⟨vs,e,_⟩:=h.2 p z;rw[n]at e;cases e
def fT.same{H H':Hp}{O:List Si}(h:fT H O)(e:bT H H'):fT H' O:=⟨bh.same h.1 e,λa ha=>let ⟨vs,q,m⟩:=h.2 a ha;⟨vs,e _ _ q,m⟩⟩
def fT.upd{H:Hp}{O:List Si}{p:Si}{o:HO}(h:fT H O)(hp:p∈O)(m:xx o):fT (L2.upd H p o) O:=⟨let ⟨_,q,r⟩:=h.2 p hp;bh.own h.1 q r,λa ha=>by
 by_cases z:a=p
 ·rw[z];exact⟨o,bI,m⟩
 ·obtain⟨u,q,r⟩:=h.2 a ha;exact⟨u,by rw[bp z];exact q,r⟩⟩
def fT.cons{H:Hp}{O:List Si}{p:Si}{o:HO}(h:fT H O)(hp:H p=some o)(m:xx o):fT H (p::O):=⟨h.1,λa ha=>by
 rcases List.mem_cons.mp ha with z|z
 ·rw[z];exact⟨o,hp,m⟩
 ·exact h.2 a z⟩
def jg(K:Q7)(H:Hp)(O:List Si)(a:Si)(d:D):Prop:=∃o vs,H a=some o/\match d with
 |.lst xs=>o=.lst vs/\bx K (hid H O) xs vs
 |.dct ks ds=>bx K (hid H O) ds vs/\((∃kvs:List (Key×V),o=.dK kvs/\ks=kvs.map (λp=>bQ p.1)/\vs=kvs.map (·.2)) \/
   ∃kvs:List (List Key×V),o=.dT kvs/\ks=kvs.map (λp=>.tup (p.1.map bQ))/\vs=kvs.map (·.2))
 |_=>False
def jg.mono{K:Q7}{H H':Hp}{O O':List Si}{a:Si}{d:D}(h:jg K H O a d)(e:H a=H' a)(s:bT (hid H O) (hid H' O')):jg K H' O' a d:=by
 obtain⟨o,vs,h1,h2⟩:=h;refine⟨o,vs,by rw[<-e];exact h1,?_⟩;cases d with
 |lst xs=>exact⟨h2.1,h2.2.mono s⟩
 |dct ks ds=>exact⟨h2.1.mono s,h2.2⟩
 |_=>exact h2
def jg.some{K:Q7}{H:Hp}{O:List Si}{a:Si}{d:D}(h:jg K H O a d):∃o,H a=some o:=let ⟨o,_,e,_⟩:=h;⟨o,e⟩
def jg.den{K:Q7}{H:Hp}{O O':List Si}{a:Si}{d:D}(h:jg K H O a d)(s:bT (hid H O) (hid H O'))(ha:a∉O'):dD K (hid H O') d (.ref a):=by
 obtain⟨o,vs,h1,h2⟩:=h;have h1':hid H O' a=Option.some o:=by rw[oY ha];exact h1
 cases d with
 |lst xs=>
  obtain⟨e,g⟩:=h2;subst e;exact cX.mpr ⟨a,vs,rfl,o9.of h1',g.mono s⟩
 |dct ks ds=>
  obtain⟨g,q⟩:=h2;refine LX.mpr ⟨a,vs,rfl,g.mono s,?_⟩;rcases q with⟨kvs,e,q⟩|⟨kvs,e,q⟩
  ·subst e;exact .inl ⟨kvs,h1',q⟩
  ·subst e;exact .inr (.inl ⟨kvs,h1',q⟩)
 |_=>exact h2.elim
structure fD(K:Q7)(O:List Si)(H:Hp)(ρ:ay)(σ:St):Prop where
 val:∀(i:Nat) d,ρ[i]?=some (some (.val d))->∃v,σ[i]?=some (some v)/\dD K (hid H O) d v
 own:∀(i:Nat) d,ρ[i]?=some (some (.own d))->∃a,σ[i]?=some (some (.ref a))/\a∈O/\jg K H O a d
 one:∀(i j:Nat) xs ys a,ρ[i]?=some (some (.own xs))->ρ[j]?=some (some (.own ys))->σ[i]?=some (some (.ref a))->σ[j]?=some (some (.ref a))->i=j
 all:fT H O
def sq{H H':Hp}(e:bT H H'){a:Si}{o:HO}(h:H a=some o):H a=H' a:=by rw[h,e _ _ h]
def fD.same{K:Q7}{O:List Si}{H H':Hp}{ρ:ay}{σ:St}(h:fD K O H ρ σ)(e:bT H H'):fD K O H' ρ σ:=
  ⟨fun i d q=>let ⟨v,a,b⟩:=h.val i d q; ⟨v,a,b.mono (cH e)⟩,
   λi xs q=>let ⟨a,q1,q2,q3⟩:=h.own i xs q;⟨a,q1,q2,q3.mono (let ⟨_,z⟩:=q3.some;sq e z) (cH e)⟩,h.one,h.all.same e⟩
structure Ex where
 c:Str
 fs:List Str
 vs:List D
abbrev R(α:Type):=Except (Option Ex) α
abbrev un{α:Type}:R α:=.error none
def rO{α:Type}:Option α->R α
 |some a=>.ok a
 |none=>.error none
def Kj(K:Q7)(Hd:Hp)(x:Ex)(C:Si)(dx:Option Si):Prop:=clsAt K x.c C/\∃ws,bx K Hd x.vs ws/\x.fs.length=ws.length/\(x.fs=[]\/∃d,dx=some d/\Hd d=some (.xd (x.fs.zip ws)))
def Kj.mono{K:Q7}{H H':Hp}{x:Ex}{C:Si}{dx:Option Si}(h:Kj K H x C dx)(e:bT H H'):Kj K H' x C dx:=by
 obtain⟨h1,ws,h2,h3,h4⟩:=h;exact⟨h1,ws,h2.mono e,h3,h4.imp id λ⟨d,q1,q2⟩=>⟨d,q1,e _ _ q2⟩⟩
end TG
namespace TG
open PySem PySem.Spec L2
variable[bh]
open PyProof.Rows (AllBare)
def IW{P:Sg}{w:Sf}{H:Hp}{h:Sl}{a:Si}{o:HO}(x:dq P w H h a o):∃u,h.get? a=some u:=by
 cases o with
 |lst xs=>obtain⟨_,_,_,_,e⟩:=x;exact⟨_,e⟩
 |tup xs=>obtain⟨_,_,_,o,e,_⟩:=x;exact⟨_,e⟩
 |dK kvs=>obtain⟨_,_,_,_,o,_,_,e,_⟩:=x;exact⟨_,e⟩
 |dT kvs=>obtain⟨_,_,_,_,o,_,_,e,_⟩:=x;exact⟨_,e⟩
 |set S n=>obtain⟨o,_,_,_,e,_⟩:=x;exact⟨_,e⟩
 |ins C dx fs=>obtain⟨_,_,_,e,_⟩:=x;exact⟨_,e⟩
 |own y=>exact x
 |xd fs=>obtain⟨_,⟨_,_,_,e,_⟩,_⟩:=x;exact⟨_,e⟩
 |rng lo hi=>obtain⟨_,_,_,e⟩:=x;exact⟨_,e⟩
 |frz ob u=>obtain⟨e,_⟩:=x;exact⟨_,e⟩
 |tbl ps=>exact⟨_,(show h.get? a=some _ from x)⟩
 |met f y=>exact⟨_,(show h.get? a=some _ from x)⟩
 |ext φ=>obtain⟨_,e,_⟩:=x;exact e
def sQ(X:Cx)(H:Hp)(b:Si):Prop:=((∃o,X.s₀.heap.get? b=some o)/\b∉X.ex)\/H b≠none\/(∃o,(b,o)∈X.pn)\/∃x,X.env.cells.lookup x=some b
def OA(B:Sl)(e:Si)(cls a0:Se)(h:Sl):Prop:=h.TracedW B e cls a0\/∃oe vs,h.get? e=some oe/\oe.cls=cls/\oe.data=.fields vs/\vs[1]?=some .none/\vs[0]?=some a0
def JN(X:Cx)(H:Hp)(s:Sw)(e C:Si):Prop:=∃B a0,B.StaysIn s.heap/\B.get? e=none/\s.heap.FunFrames B X.stack/\OA B e (.ref C) a0 s.heap/\∀b o,s.heap.get? b=some o->sQ X H b->b∉frs X.stack->B.get? b=some o
def Oj(X:Cx)(H:Hp)(O:List Si)(s:Sw)(u:Se)(x:Ex):Prop:=∃e C dx,u=.ref e/\Kj X.K (hid H O) x C dx/\JN X H s e C
def oN(P:Sg)(w:Sf):zF:=λouter H s E u s'=>∃e C dx H' B a0,u=.ref e/\s'.os=s.os/\AllBare s'.gens/\Un (frs outer) [] H H' s.heap s'.heap/\pA P w H' s'.heap/\Heap.FlyingW B outer e (.ref C) a0 s'.heap/\
 (∀b o,s'.heap.get? b=some o->((∃o',s.heap.get? b=some o')\/H' b≠none)->b∉frs outer->B.get? b=some o)/\E (.ref C) dx H'
def MO(K:Q7)(H:Hp)(O:List Si)(x:Ex)(E:XK):Prop:=∀C dx H',bT H H'->Kj K (hid H' O) x C dx->E (.ref C) dx H'
def JC(X:Cx)(σ:St)(O:List Si)(H:Hp)(x:Ex):Prop:=∀pins s u H',Inv X pins σ H' s->bT H H'->Oj X H' O s u x->X.xe u s
def JC.mono{X:Cx}{σ:St}{O:List Si}{H H':Hp}{x:Ex}(h:JC X σ O H x)(s:bT H H'):JC X σ O H' x:=λpins st u H2 I s2 f=>h pins st u H2 I (s.trans s2) f
def AY(X:Cx)(O:List Si)(H:Hp)(x:Ex):XK:=λu dx H'=>∃C,u=.ref C/\bT H H'/\Kj X.K (hid H' O) x C dx
def mZ(CX:zF)(X:Cx)(σ:St)(E:XK):Prop:=∀(pins:List (Si×Obj))(H:Hp)(s:Sw)(e:Se)(s':Sw),Inv X pins σ H s->CX X.stack H s E e s'->X.xe e s'
def Bj{X:Cx}{σ:St}{O:List Si}{H:Hp}{x:Ex}(h:JC X σ O H x):mZ (oN X.prog X.w) X σ (AY X O H x):=by
 rintro pins H1 s u s' I ⟨e,C,dx,H',B,a0,rfl,os,bare,un,hok,⟨f1,f2,f3,f4⟩,kp,C',eC,sm,hd⟩;cases eC;have I':Inv X pins σ H' s':=I.call' os un hok bare (ch:=[]) λb z=>absurd z (by simp);refine h pins s' _ H' I' sm ⟨e,C,dx,rfl,hd,B,a0,f1,f2,f3,.inl f4,λb o eb hb nf=>kp b o eb ?_ nf⟩;rcases hb with⟨⟨o',hb⟩,nx⟩|hb|⟨o',hb⟩|⟨y,hb⟩
 ·exact .inl (I.base.there b o' hb nx)
 ·exact .inr hb
 ·exact .inl ⟨_,(I.pin _ (OM _ hb)).1⟩
 ·obtain⟨v,o,q,_⟩:=I.cell y b hb;exact .inl ⟨o,q⟩
def AC{X:Cx}{σ:St}:mZ (oN X.prog X.w) X σ E0:=λ_ _ _ _ _ _ ⟨_,_,_,_,_,_,_,_,_,_,_,_,_,z⟩=>z.elim
def yk{X:Cx}{O:List Si}{H:Hp}{x:Ex}:MO X.K H O x (AY X O H x):=λC dx H' s e=>⟨C,rfl,s,e⟩
section
variable{X:Cx}{pins:List (Si×Obj)}{σ:St}{H:Hp}{s:Sw}{h':Sl}
def Gy(I:Inv X pins σ H s)(k:∀b o,s.heap.get? b=some o->sQ X H b->b∉frs X.stack->h'.get? b=some o):pA X.prog X.w H h':=λa ob ea=>
 (I.hok a ob ea).stay (λb u hb q=>by
  have hn:H b≠none:=by
   rcases hb with e|e
   ·rw[e,ea];intro z;cases z
   ·rw[e];intro z;cases z
  exact k b u q (.inr (.inl hn)) λhf=>hn (I.stkFree b hf)) (λ_ q=>q) λ_ _ q=>q
def vD(I:Inv X pins σ H s)(us:s.heap.UpToSlots h'){b:Si}{o:Obj}(hb:b∈frs X.stack)(e:s.heap.get? b=some o):∃sl,h'.get? b=some {o with slots:=sl}:=by
 obtain⟨_,o',e',nf⟩:=I.stack.mem hb;rw[e]at e';cases e';exact us b o e nf
def Ic(I:Inv X pins σ H s)(hx:X.ex=[])(hst:X.stack=X.env::X.outer)(hf:X.env.frame=some X.env.locals)(us:s.heap.UpToSlots h')(k:∀b o,s.heap.get? b=some o->sQ X H b->b∉frs X.stack->h'.get? b=some o):
  Un (frs X.outer) [] X.H₀ H X.s₀.heap h':=by
 have U:=I.base;rw[hx]at U;have fr:frs X.stack=X.env.locals::frs X.outer:=by rw[hst];show List.filterMap _ (_::_)=_;rw[OI,hf];rfl
 have nl:∀b o,X.s₀.heap.get? b=some o->b≠X.env.locals:=λb o q z=>by
  have h1:=RH q;have h2:=I.ok.above;rw[z]at h1;exact OC _ (OB h1 h2)
 have nfr:∀b o,X.s₀.heap.get? b=some o->b∉frs X.outer->b∉frs X.stack:=λb o q nb z=>by
  rw[fr]at z;rcases List.mem_cons.mp z with z|z
  ·exact nl b o q z
  ·exact nb z
 refine⟨λb o q n nb _=>k b o (U.keep b o q n nb (by simp)) (.inl ⟨⟨o,q⟩,by rw[hx];simp⟩) (nfr b o q nb),λb o q n hb _=>?_,λb o q n _=>U.free b o q n (by simp),λb o q _=>?_,U.tups,U.frzs,U.tbls⟩
 ·obtain⟨sl,e⟩:=U.slot b o q n hb (by simp);obtain⟨sl',e'⟩:=vD I us (by rw[fr];exact OL _ hb) e;exact⟨sl',e'⟩
 ·obtain⟨o1,e1⟩:=U.there b o q (by simp);by_cases hb:b∈frs X.stack
  ·obtain⟨sl,e⟩:=vD I us hb e1;exact⟨_,e⟩
  ·exact⟨o1,k b o1 e1 (.inl ⟨⟨o,q⟩,by rw[hx];simp⟩) hb⟩
end
def C6{P:Sg}{w:Sf}{K:Q7}{mg:Str->Option Se}{base:Sl}{N:List Str}{qual:Str}{scope:Sx}{f:Si}{cd:Se}{A:Sv}{outer:List Env}{s:Sw}{H:Hp}{E:XK}{σ:St}{O O':List Si}{H':Hp}{x:Ex}
  (hx:MO K H O x E) (sm:bT H H') (hs:∀a∈O,a∈O'):JC (kC (oN P w) P w K mg base N qual scope f cd A outer s H E) σ O' H' x:=by
 rintro pins s1 u H1 I s2 ⟨e,C,dx,rfl,hd,B,a0,b1,b2,b3,b4,b5⟩;have fin:∀h',Heap.FlyingW B outer e (.ref C) a0 h'->s1.heap.UpToSlots h'->oN P w outer H s E (.ref e) {s1 with heap:=h'}:=λh' fl us=>by
  have k:∀b o,s1.heap.get? b=some o->sQ (kC (oN P w) P w K mg base N qual scope f cd A outer s H E) H1 b->b∉frs (kC (oN P w) P w K mg base N qual scope f cd A outer s H E).stack->h'.get? b=some o:=λb o q kb nf=>fl.1 b o (b5 b o q kb nf);have un:=Ic I rfl rfl rfl us k;have hok:=Gy I k;refine⟨e,C,dx,H1,B,a0,rfl,I.os,I.bare,un,hok,fl,λb o q hb nf=>?_,hx C dx H1 (sm.trans s2) (hd.mono (jI hs))⟩;have nf2:b∉frs (kC (oN P w) P w K mg base N qual scope f cd A outer s H E).stack:=λz=>by
   rcases List.mem_cons.mp (show b∈s.heap.objs.size::frs outer from z)with z|z
   ·rcases hb with hb|hb
    ·obtain⟨o',hb⟩:=hb
     have:=RH hb
     rw[z]at this;exact OC _ this
    ·rw[z]at hb;exact hb I.free
   ·exact nf z
  have kb:sQ (kC (oN P w) P w K mg base N qual scope f cd A outer s H E) H1 b:=hb.elim (λz=>.inl ⟨z,λy=>nomatch y⟩) λz=>.inr (.inl z);obtain⟨o1,e1⟩:∃o1,s1.heap.get? b=some o1:=by
   rcases hb with⟨o',hb⟩|hb
   ·exact I.base.there b o' hb (λz=>nomatch z)
   ·cases q0:H1 b with
    |none=>exact absurd q0 hb
    |some ob=>exact IW (I.hok b ob q0)
  have:=k b o1 e1 kb nf2
  rw[q]at this;cases this;exact b5 b _ e1 kb nf2
 show Sy _ _ (leaving (RW qual scope s.heap.objs.size f cd) (.ref e)) _ _ s1;rcases b4 with b4|⟨oe,vs,c1,c2,c3,c4,c5⟩
 ·exact wpAny_leaves_onW I.ok.frames rfl ⟨b1,b2,b3,b4⟩ fin
 ·refine wpAny_leaving_firstW I.ok.frames b3 rfl c1 b1 b2 c3 c4 c5 λh' hL=>?_;obtain⟨k1,⟨_,_,k2⟩,k3,k4⟩:=hL;exact fin h' ⟨k1,b2,k2,c2 ▸ k3⟩ k4
end TG
namespace TG
open PySem PySem.Spec L2
variable[bh]
def jJ(X:Cx)(σ:St)(O:List Si)(H:Hp){α:Type}(r:R α)(Q:α->Prop):Prop:=match r with
 |.ok a=>Q a
 |.error (some x)=>JC X σ O H x
 |.error none=>False
section
variable{X:Cx}{σ:St}{O:List Si}{H H':Hp}{α β:Type}
def jJ.bind{r:R α}{G:α->R β}{Q:β->Prop}(h:jJ X σ O H (r.bind G) Q):jJ X σ O H r λa=>jJ X σ O H (G a) Q:=by
 match r,h with
 |.ok a,h=>exact h
 |.error (some x),h=>exact h
 |.error none,h=>exact h
def jJ.imp{r:R α}{Q Q':α->Prop}(h:jJ X σ O H r Q)(f:∀a,Q a->Q' a):jJ X σ O H r Q':=by
 match r,h with
 |.ok a,h=>exact f a h
 |.error (some x),h=>exact h
 |.error none,h=>exact h
def jJ.mono{r:R α}{Q:α->Prop}(h:jJ X σ O H r Q)(s:bT H H'):jJ X σ O H' r Q:=by
 match r,h with
 |.ok a,h=>exact h
 |.error (some x),h=>exact JC.mono h s
 |.error none,h=>exact h
def jJ.rO{o:Option α}{Q:α->Prop}(h:jJ X σ O H (rO o) Q):∃a,o=some a/\Q a:=by
 match o,h with
 |some a,h=>exact⟨a,rfl,h⟩
 |none,h=>exact h.elim
end
abbrev FX:=ay->R D
def tF(X:Cx)(F:FX):TE:=λσ H Q=>∃O ρ,fD X.K O H ρ σ/\jJ X σ O H (F ρ) λd=>∀v H',bT H H'->dD X.K (hid H' O) d v->Q v H'
def L3(X:Cx)(F:ay->R Bool):TT:=λσ H Q=>∃O ρ,fD X.K O H ρ σ/\jJ X σ O H (F ρ) λb=>∀H',bT H H'->Q b H'
def Nm(X:Cx)(F:ay->R (List D)):TA:=λσ H Q=>∃O ρ,fD X.K O H ρ σ/\jJ X σ O H (F ρ) λds=>∀vs H',bT H H'->bx X.K (hid H' O) ds vs->Q vs H'
def FE(X:Cx)(e:Sz)(F:FX):Prop:=PE X e (tF X F)
def FT(X:Cx)(e:Sz)(F:ay->R Bool):Prop:=PT X e (L3 X F)
def FW(X:Cx)(e:Sz)(F:ay->R Bool):Prop:=PW X e (L3 X F)
def FA(X:Cx)(es:List Sz)(F:ay->R (List D)):Prop:=PA X es (Nm X F)
def PE.weak{X:Cx}{e:Sz}{t t':TE}(h:PE X e t)(w:∀σ H Q,t' σ H Q->t σ H Q):PE X e t':=λpins s σ H Q I q=>h pins s σ H Q I (w σ H Q q)
def PT.weak{X:Cx}{e:Sz}{t t':TT}(h:PT X e t)(w:∀σ H Q,t' σ H Q->t σ H Q):PT X e t':=λpins s σ H Q I q=>h pins s σ H Q I (w σ H Q q)
def PW.weak{X:Cx}{e:Sz}{t t':TT}(h:PW X e t)(w:∀σ H Q,t' σ H Q->t σ H Q):PW X e t':=λwhole pins s σ H Q I q=>h whole pins s σ H Q I (w σ H Q q)
def PA.weak{X:Cx}{es:List Sz}{t t':TA}(h:PA X es t)(w:∀σ H Q,t' σ H Q->t σ H Q):PA X es t':=λpos pins s σ H Q I q=>h pos pins s σ H Q I (w σ H Q q)
def PS.weak{X:Cx}{st:SD}{t t':TS}(h:PS X st t)(w:∀D σ H,t' D σ H->t D σ H):PS X st t':=λpins s σ H Q I q=>h pins s σ H Q I (w Q σ H q)
def xS.weak{X:Cx}{st:List SD}{t t':TS}(h:xS X st t)(w:∀D σ H,t' D σ H->t D σ H):xS X st t':=λpins s σ H Q I q=>h pins s σ H Q I (w Q σ H q)
def uC(ρ:ay)(i:Nat):R D:=match ρ[i]? with
 |some (some (.val d))=>.ok d
 |_=>un
def Fl{ρ:ay}{i:Nat}{d:D}(h:uC ρ i=.ok d):ρ[i]?=some (some (.val d)):=by
 unfold uC at h;split at h
 ·rename_i e;cases h;exact e
 ·cases h
def ah(i:Nat):FX:=λρ=>uC ρ i
def fC(d:D):FX:=λ_=>.ok d
section
variable{X:Cx}
def vT{σ:St}{O:List Si}{H:Hp}{ρ:ay}{i:Nat}{Q:D->Prop}(h:jJ X σ O H (uC ρ i) Q):∃d,ρ[i]?=some (some (.val d))/\Q d:=by
 cases e:uC ρ i with
 |ok d=>rw[e]at h;exact⟨d,Fl e,h⟩
 |error z=>
  rw[e]at h;cases z with
  |none=>exact h.elim
  |some x=>
   exfalso;unfold uC at e;split at e
   ·cases e
   ·have:=Except.error.inj e;cases this
def Nh{i:Nat}{x:Str}{pos:Pos}(h:PE X (.Name x pos) (uW i)):FE X (.Name x pos) (ah i):=
 PE.weak h λσ H Q ⟨O,ρ,E,hF⟩=>by
  obtain⟨d,e,q⟩:=vT hF;obtain⟨v,e,dv⟩:=E.val i d e;exact⟨v,e,q v H (bT.refl H) dv⟩
def pS{e:Sz}{d:D}{v:V}(h:PE X e (tC v))(hd:∀K H,dD K H d v):FE X e (fC d):=
 PE.weak h λσ H Q ⟨O,ρ,E,q⟩=>q v H (bT.refl H) (hd _ _)
def Nc{i j pos}:FE X (.Constant (.int i) j pos) (fC (.int i)):=pS Jn λ_ _=>gG.mpr rfl
def NV{b j pos}:FE X (.Constant (.bool b) j pos) (fC (.bl b)):=pS J7 λ_ _=>lM.mpr rfl
def MK{j pos}:FE X (.Constant .none j pos) (fC .non):=pS Jl λ_ _=>md.mpr rfl
def M2{x j pos}:FE X (.Constant (.str x) j pos) (fC (.str x)):=pS IJ λ_ _=>gJ.mpr rfl
def noStar:Sz->Bool
 |.Starred _ _=>false
 |_=>true
def fN{e:Sz}{es:List Sz}{env:Env}(h:noStar e=true):SA (e::es) env=(false,eval e env)::SA es env:=by
 cases e<;>first|rfl|cases h
def jd{pos:Pos}{env:Env}:∀{es:List Sz},es.all noStar=true->(backTo pos (SA es env)).any (·.1)=false
 |[],_=>rfl
 |e::es,h=>by
  rw[PQ,Pn]at h;rw[fN h.1];exact jd h.2
def aq:ay->R (List D):=λ_=>.ok []
def af(f:FX)(g:ay->R (List D)):ay->R (List D):=λρ=>(f ρ).bind λx=>(g ρ).bind λxs=>.ok (x::xs)
def MX:FA X [] aq:=PA.weak wq λσ H Q ⟨O,ρ,E,q⟩=>q [] H (bT.refl H) (dA.mpr rfl)
def bind_some{α β:Type}{o:Option α}{f:α->Option β}{b:β}(h:o.bind f=some b):∃a,o=some a/\f a=some b:=by
 cases o with
 |none=>cases h
 |some a=>exact⟨a,rfl,h⟩
def rY{ε α β:Type}{o:Except ε α}{f:α->Except ε β}{b:β}(h:o.bind f=.ok b):∃a,o=.ok a/\f a=.ok b:=by
 cases o with
 |error _=>cases h
 |ok a=>exact⟨a,rfl,h⟩
def Lx{e:Sz}{es:List Sz}{f:FX}{g:ay->R (List D)}(he:FE X e f)(hs:FA X es g)(hns:noStar e=true:=by rfl):FA X (e::es) (af f g):=
 PA.weak (pj he hs (fN hns)) λσ H Q ⟨O,ρ,E,h⟩=>
  ⟨O,ρ,E,(jJ.bind h).imp λx h v H1 s1 d1=>⟨O,ρ,E.same s1,((jJ.bind h).mono s1).imp λxs q vs H2 s2 d2=>q (v::vs) H2 (s1.trans s2) (bP.mpr ⟨v,vs,rfl,d1.mono (cH s2),d2⟩)⟩⟩
def small(n:Nat):Bool:=decide (n<=100000)
def e7{n:Nat}(h:small n=true):n<=Sn:=OG (of_decide_eq_true h) (by decide)
def fg{n:Nat}(h:n<=100000):small n=true:=decide_eq_true h
def vC(xs:List D):Option D:=if small xs.length then some (.tup xs)else none
def nc(xs:List D):Option D:=if small xs.length then some (.lst xs)else none
def aL(g:ay->R (List D)):FX:=λρ=>(g ρ).bind λxs=>rO (vC xs)
def gE(g:ay->R (List D)):FX:=λρ=>(g ρ).bind λxs=>rO (nc xs)
def cq{α:Type}{c:Bool}{a b:α}(h:(if c then some a else none)=some b):c=true/\a=b:=by
 cases c with
 |true=>exact⟨rfl,Option.some.inj h⟩
 |false=>cases h
def gZ{K:Q7}{H:Hp}{O:List Si}{p:Si}{ds:List D}{vs:List V}(hO:fT H O)(hp:H p=none)(d:bx K (hid H O) ds vs):dD K (hid (upd H p (.tup vs)) O) (.tup ds) (.ref p):=
 cZ.mpr ⟨p,vs,rfl,by rw[oY (hO.not hp),bI],d.mono (wM hp)⟩
def dY{K:Q7}{H:Hp}{O:List Si}{p:Si}{ds:List D}{vs:List V}(hO:fT H O)(hp:H p=none)(d:bx K (hid H O) ds vs):dD K (hid (upd H p (.lst vs)) O) (.lst ds) (.ref p):=
 cX.mpr ⟨p,vs,rfl,o9.of (by rw[oY (hO.not hp),bI]),d.mono (wM hp)⟩
def M6{es:List Sz}{g:ay->R (List D)}{k pos}(h:FA X es g):FE X (.Tuple es k pos) (aL g):=
 PE.weak (Ju h) λσ H Q ⟨O,ρ,E,hF⟩=>⟨O,ρ,E,(jJ.bind hF).imp λxs hF vs H1 s1 d1=>by
  obtain⟨d,e,q⟩:=jJ.rO hF;obtain⟨hz,e⟩:=cq e;subst e;refine⟨by rw[<-d1.length];exact e7 hz,λp hp=>?_⟩;exact q _ _ (s1.trans (cI hp _)) (gZ (E.all.same s1) hp d1)⟩
def NI{es:List Sz}{g:ay->R (List D)}{pos}(h:FA X es g):FE X (.List es pos) (gE g):=
 PE.weak (Fa h) λσ H Q ⟨O,ρ,E,hF⟩=>⟨O,ρ,E,(jJ.bind hF).imp λxs hF vs H1 s1 d1=>by
  obtain⟨d,e,q⟩:=jJ.rO hF;obtain⟨hz,e⟩:=cq e;subst e;refine⟨by rw[<-d1.length];exact e7 hz,λp hp=>?_⟩;exact q _ _ (s1.trans (cI hp _)) (dY (E.all.same s1) hp d1)⟩
def FY(K:Q7)(r:V->Hp->VK->Prop)(g:D->Option D):Prop:=
 ∀(a d:D)(x:V)(O:List Si)(H:Hp)(Q:VK),fT H O->g a=some d->dD K (hid H O) a x->(∀v H',bT H H'->dD K (hid H' O) d v->Q v H')->r x H Q
def f1(g:D->Option D)(f:FX):FX:=λρ=>(f ρ).bind λa=>rO (g a)
def dE(K:Q7)(r:R2)(g:D->D->Option D):Prop:=
 ∀(a b d:D)(x y:V)(O:List Si)(H:Hp)(Q:VK),fT H O->g a b=some d->dD K (hid H O) a x->dD K (hid H O) b y->(∀v H',bT H H'->dD K (hid H' O) d v->Q v H')->r x y H Q
def f2(g:D->D->Option D)(f1 f2:FX):FX:=λρ=>(f1 ρ).bind λa=>(f2 ρ).bind λb=>rO (g a b)
def xk{r:R2}{g:D->D->Option D}{fa fb:FX}(s:dE X.K r g):∀σ H Q,tF X (f2 g fa fb) σ H Q->JV r (tF X fa) (tF X fb) σ H Q:=λσ H Q ⟨O,ρ,E,hF⟩=>
 ⟨O,ρ,E,(jJ.bind hF).imp fun a hF x H1 s1 d1=>⟨O,ρ,E.same s1,((jJ.bind hF).mono s1).imp fun b hF y H2 s2 d2=>by
  obtain⟨d,e,q⟩:=jJ.rO hF;exact s a b d x y O H2 Q (E.all.same (s1.trans s2)) e (d1.mono (cH s2)) d2 λv H3 s3 d3=>q v H3 ((s1.trans s2).trans s3) d3⟩⟩
def Np{a b:Sz}{op:Operator}{r:R2}{g:D->D->Option D}{fa fb:FX}{pos:Pos}(ho:kA X (SU op) r)(s:dE X.K r g)(ha:FE X a fa)(hb:FE X b fb):FE X (.BinOp a op b pos) (f2 g fa fb):=
 PE.weak (Lh ho ha hb) (xk s)
def MB{a b:Sz}{op:SW}{r:R2}{g:D->D->Option D}{fa fb:FX}{pos:Pos}(ho:kA X (SV op) r)(s:dE X.K r g)(ha:FE X a fa)(hb:FE X b fb)(hm:SY op b=false):FE X (.Compare a [op] [b] pos) (f2 g fa fb):=
 PE.weak (Gk ho ha hb hm) (xk s)
def Mm:D->Option Bool
 |.bl b=>some b
 |_=>none
def fB(f:FX):ay->R Bool:=λρ=>(f ρ).bind λd=>rO (Mm d)
def DA{t:TE}{f:FX}(h:∀σ H Q,tF X f σ H Q->t σ H Q):∀σ H Q,L3 X (fB f) σ H Q->He t σ H Q:=λσ H Q ⟨O,ρ,E,hF⟩=>
 h σ H _ ⟨O,ρ,E,(jJ.bind hF).imp λd hF v H1 s1 d1=>by
  obtain⟨b,e,q⟩:=jJ.rO hF;cases d with
  |bl b'=>
   cases e;exact⟨b,lM.mp d1,q H1 s1⟩
  |_=>cases e⟩
def Nt{a b:Sz}{op:SW}{r:R2}{g:D->D->Option D}{fa fb:FX}{pos:Pos}(ho:kA X (SV op) r)(s:dE X.K r g)(ha:FE X a fa)(hb:FE X b fb)(hm:SY op b=false):FT X (.Compare a [op] [b] pos) (fB (f2 g fa fb)):=
 PT.weak (Fy ho ha hb hm) (DA (xk s))
def AF(K:Q7)(r:List V->Hp->VK->Prop)(g:List D->Option D):Prop:=
 ∀(ds:List D)(d:D)(xs:List V)(O:List Si)(H:Hp)(Q:VK),fT H O->g ds=some d->bx K (hid H O) ds xs->(∀v H',bT H H'->dD K (hid H' O) d v->Q v H')->r xs H Q
def fL(g:List D->Option D)(f:ay->R (List D)):FX:=λρ=>(f ρ).bind λds=>rO (g ds)
def fR(g:List D->R D)(f:ay->R (List D)):FX:=λρ=>(f ρ).bind g
def DX{r:List V->Hp->VK->Prop}{g:List D->Option D}{f:ay->R (List D)}(s:AF X.K r g):∀σ H Q,tF X (fL g f) σ H Q->Ml r (Nm X f) σ H Q:=λσ H Q ⟨O,ρ,E,hF⟩=>
 ⟨O,ρ,E,(jJ.bind hF).imp fun ds hF vs H1 s1 d1=>by
  obtain⟨d,e,q⟩:=jJ.rO hF;exact s ds d vs O H1 Q (E.all.same s1) e d1 λv H2 s2 d2=>q v H2 (s1.trans s2) d2⟩
def yZ(f:ay->R Bool):ay->R Bool:=λρ=>(f ρ).bind λb=>.ok (!b)
def MN(f g:ay->R Bool):ay->R Bool:=λρ=>(f ρ).bind λb=>if b then g ρ else .ok false
def FQ(f g:ay->R Bool):ay->R Bool:=λρ=>(f ρ).bind λb=>if b then .ok true else g ρ
variable{a b c:Sz}{rest:List Sz}{pos:Pos}{f g:ay->R Bool}
def Nv(h:FT X a f):FT X (.UnaryOp .Not a pos) (yZ f):=PT.weak (Ir h) λσ H Q ⟨O,ρ,E,hF⟩=>⟨O,ρ,E,(jJ.bind hF).imp λb q H1 s1=>q H1 s1⟩
def Mz(h:FT X a f):FW X (.BoolOp .Or [a] pos) f:=IU h
def N4(ha:FT X a f)(hb:FW X (.BoolOp .Or (b::rest) pos) g):FW X (.BoolOp .Or (a::b::rest) pos) (FQ f g):=PW.weak (KD ha hb) λσ H Q ⟨O,ρ,E,hF⟩=>⟨O,ρ,E,(jJ.bind hF).imp λc hF H1 s1=>by
 cases c with
 |false=>exact zE ⟨O,ρ,E.same s1,(hF.mono s1).imp λb q H2 s2=>q H2 (s1.trans s2)⟩
 |true=>exact zp (hF H1 s1)⟩
def FW.ft{e:Sz}(h:FW X e f):FT X e f:=PW.pt h
def truth:D->Option Bool
 |.non=>some false
 |.bl b=>some b
 |.int i=>some (i !=0)
 |.str x=>if small x.length then some (x.length !=0)else none
 |.tup xs=>some (!xs.isEmpty)
 |.lst xs=>some (!xs.isEmpty)
 |_=>none
def iL(f:FX):ay->R Bool:=λρ=>(f ρ).bind λd=>rO (truth d)
def zV(d:D)(k:R D):R D:=match d with
 |.bl true=>k
 |.bl false=>.ok (.bl false)
 |_=>un
def KO(d:D)(k:R D):R D:=match d with
 |.bl false=>k
 |.bl true=>.ok (.bl true)
 |_=>un
def Ad:D->Option D
 |.bl b=>some (.bl (!b))
 |_=>none
def iz(f g:FX):FX:=λρ=>(f ρ).bind λd=>zV d (g ρ)
def FP(f g:FX):FX:=λρ=>(f ρ).bind λd=>KO d (g ρ)
def ye(f:FX):FX:=f1 Ad f
variable{fa fb:FX}
def Mq{op}(h:FE X a fa):FE X (.BoolOp op [a] pos) fa:=Jd h
def Mf(ha:FE X a fa)(hb:FE X (.BoolOp .And (b::rest) pos) fb):FE X (.BoolOp .And (a::b::rest) pos) (iz fa fb):=PE.weak (IH ha hb) λσ H Q ⟨O,ρ,E,hF⟩=>⟨O,ρ,E,(jJ.bind hF).imp λd hF x H1 s1 d1=>by
 cases d with
 |bl c=>
  refine⟨c,lM.mp d1,?_⟩;cases c with
  |true=>exact zp ⟨O,ρ,E.same s1,(hF.mono s1).imp λd q v H2 s2 d2=>q v H2 (s1.trans s2) d2⟩
  |false=>exact zE (hF _ H1 s1 (lM.mpr rfl))
 |_=>exact hF.elim⟩
def NW(ha:FE X a fa)(hb:FE X (.BoolOp .Or (b::rest) pos) fb):FE X (.BoolOp .Or (a::b::rest) pos) (FP fa fb):=PE.weak (JQ ha hb) λσ H Q ⟨O,ρ,E,hF⟩=>⟨O,ρ,E,(jJ.bind hF).imp λd hF x H1 s1 d1=>by
 cases d with
 |bl c=>
  refine⟨c,lM.mp d1,?_⟩;cases c with
  |false=>exact zE ⟨O,ρ,E.same s1,(hF.mono s1).imp λd q v H2 s2 d2=>q v H2 (s1.trans s2) d2⟩
  |true=>exact zp (hF _ H1 s1 (lM.mpr rfl))
 |_=>exact hF.elim⟩
def Ma(ha:FE X a fa):FE X (.UnaryOp .Not a pos) (ye fa):=PE.weak (II ha) λσ H Q ⟨O,ρ,E,hF⟩=>⟨O,ρ,E,(jJ.bind hF).imp λd hF x H1 s1 d1=>by
 obtain⟨d',e,q⟩:=jJ.rO hF;cases d with
 |bl c=>
  cases e;exact⟨c,lM.mp d1,q _ H1 s1 (lM.mpr rfl)⟩
 |_=>cases e⟩
def K3(t:ay->R Bool)(f g:FX):FX:=λρ=>(t ρ).bind λc=>if c then f ρ else g ρ
def NY(hc:FT X c f)(ha:FE X a fa)(hb:FE X b fb):FE X (.IfExp c a b pos) (K3 f fa fb):=PE.weak (DU hc ha hb) λσ H Q ⟨O,ρ,E,hF⟩=>⟨O,ρ,E,(jJ.bind hF).imp λd hF H1 s1=>by
 cases d with
 |true=>exact zp ⟨O,ρ,E.same s1,(hF.mono s1).imp λd q v H2 s2 d2=>q v H2 (s1.trans s2) d2⟩
 |false=>exact zE ⟨O,ρ,E.same s1,(hF.mono s1).imp λd q v H2 s2 d2=>q v H2 (s1.trans s2) d2⟩⟩
end
end TG
namespace TG
open PySem PySem.Spec L2
variable[bh]
open PySem.SeqAt (EqAt RcAt RcNeAt)
mutual
def pyEq:D->D->Bool
 |.non,.non=>true
 |.bl a,.bl b=>a==b
 |.bl a,.int b=>(if a then 1 else 0)==b
 |.int a,.bl b=>a==(if b then 1 else 0)
 |.int a,.int b=>a==b
 |.str a,.str b=>a==b
 |.tup xs,.tup ys=>jp xs ys
 |.lst xs,.lst ys=>jp xs ys
 |.dct _ _,.dct _ _=>true
 |.obj _ _ _,.obj _ _ _=>true
 |.exc _ _ _,.exc _ _ _=>true
 |_,_=>false
def jp:List D->List D->Bool
 |[],[]=>true
 |x::xs,y::ys=>pyEq x y&&jp xs ys
 |_,_=>false
end
mutual
def qM:∀d:D,pyEq d d=true
 |.non=>by unfold pyEq;rfl
 |.bl b=>by unfold pyEq;simp
 |.int i=>by unfold pyEq;simp
 |.str x=>by unfold pyEq;simp
 |.tup xs=>by unfold pyEq;exact oU xs
 |.lst xs=>by unfold pyEq;exact oU xs
 |.dct _ _=>by unfold pyEq;rfl
 |.obj _ _ _=>by unfold pyEq;rfl
 |.exc _ _ _=>by unfold pyEq;rfl
def oU:∀ds:List D,jp ds ds=true
 |[]=>by unfold jp;rfl
 |d::ds=>by unfold jp;rw[qM d,oU ds];rfl
end
def zA(xs ys:List D)(j:Nat):Bool:=match xs[j]?,ys[j]? with
 |some a,some b=>pyEq a b
 |_,_=>false
def iH:∀xs ys:List D,((List.range (min xs.length ys.length)).all (zA xs ys)&&xs.length==ys.length)=jp xs ys
 |[],[]=>by unfold jp;rfl
 |[],_::_=>by unfold jp;simp
 |_::_,[]=>by unfold jp;simp
 |x::xs,y::ys=>by
  have ih:=iH xs ys
  conv=>rhs;unfold jp
  rw[<-ih];have e:min (x::xs).length (y::ys).length=min xs.length ys.length+1:=by simp only[OY];omega
  rw[e,PR,PQ,PV];have e2:((x::xs).length==(y::ys).length)=(xs.length==ys.length):=by simp
  rw[e2,Bool.and_assoc];have e3:(List.range (min xs.length ys.length)).all (zA (x::xs) (y::ys)∘Nat.succ)=(List.range (min xs.length ys.length)).all (zA xs ys):=by
   congr 1
  rw[e3];rfl
mutual
def pl:D->Bool
 |.tup xs=>oV xs
 |.lst xs=>oV xs
 |.dct _ _=>false
 |.obj _ _ _=>false
 |.exc _ _ _=>false
 |_=>true
def oV:List D->Bool
 |[]=>true
 |x::xs=>pl x&&oV xs
end
def iJ{ks vs:List D}(h:pl (.dct ks vs)=true):False:=by unfold pl at h;cases h
def iV{c:Str}{fs:List Str}{vs:List D}(h:pl (.obj c fs vs)=true):False:=by unfold pl at h;cases h
def iX{c:Str}{fs:List Str}{vs:List D}(h:pl (.exc c fs vs)=true):False:=by unfold pl at h;cases h
def n8:∀{xs:List D},oV xs=true->∀x∈xs,pl x=true
 |[],_,_,h=>nomatch h
 |x::xs,h,y,hy=>by
  unfold oV at h;rw[Pn]at h;rcases List.mem_cons.mp hy with z|z
  ·rw[z];exact h.1
  ·exact n8 h.2 y z
def D7:∀{xs:List D},(∀x∈xs,pl x=true)->oV xs=true
 |[],_=>by unfold oV;rfl
 |x::xs,h=>by
  unfold oV;rw[Pn];exact⟨h x OJ,D7 λy hy=>h y (OL _ hy)⟩
def fH{xs:List D}:pl (.tup xs)=oV xs:=by rw[pl]
def fG{xs:List D}:pl (.lst xs)=oV xs:=by rw[pl]
def gF:Nat->D->Bool
 |n+1,.tup xs=>xs.all (gF n)
 |n+1,.lst xs=>xs.all (gF n)
 |0,.tup _=>false
 |0,.lst _=>false
 |_,.dct _ _=>false
 |_,.obj _ _ _=>false
 |_,.exc _ _ _=>false
 |_,_=>true
section
variable{X:Cx}{pins:List (Si×Obj)}{σ:St}{H:Hp}{s:Sw}
def Inv.not_both(I:Inv X pins σ H s){a:Si}{xs ys:List V}(h:qv X.K H a xs)(h':o9 X.K H a ys):False:=by
 obtain⟨its,_,ht,_⟩:=I.tuple h;obtain⟨its2,_,hl,_⟩:=I.list h';exact absurd rfl (SeqAt.ne_of_list_tuple hl.isList (show s.heap.IsTuple a its.toArray from ht))
mutual
def Inv.den_inj(I:Inv X pins σ H s):∀{a b:D}{v:V},pl a=true->pl b=true->dD X.K H a v->dD X.K H b v->a=b
 |.non,b,v,pa,pb,h,h'=>by
  rw[md]at h;subst h;cases b with
  |non=>rfl
  |bl _=>rw[lM]at h';cases h'
  |int _=>rw[gG]at h';cases h'
  |str _=>rw[gJ]at h';cases h'
  |tup _=>rw[cZ]at h';obtain⟨_,_,e,_⟩:=h';cases e
  |lst _=>rw[cX]at h';obtain⟨_,_,e,_⟩:=h';cases e
  |dct _ _=>exact(iJ pb).elim
  |obj _ _ _=>exact(iV pb).elim
  |exc _ _ _=>exact(iX pb).elim
 |.bl x,b,v,pa,pb,h,h'=>by
  rw[lM]at h;subst h;cases b with
  |non=>rw[md]at h';cases h'
  |bl _=>rw[lM]at h';cases h';rfl
  |int _=>rw[gG]at h';cases h'
  |str _=>rw[gJ]at h';cases h'
  |tup _=>rw[cZ]at h';obtain⟨_,_,e,_⟩:=h';cases e
  |lst _=>rw[cX]at h';obtain⟨_,_,e,_⟩:=h';cases e
  |dct _ _=>exact(iJ pb).elim
  |obj _ _ _=>exact(iV pb).elim
  |exc _ _ _=>exact(iX pb).elim
 |.int x,b,v,pa,pb,h,h'=>by
  rw[gG]at h;subst h;cases b with
  |non=>rw[md]at h';cases h'
  |bl _=>rw[lM]at h';cases h'
  |int _=>rw[gG]at h';cases h';rfl
  |str _=>rw[gJ]at h';cases h'
  |tup _=>rw[cZ]at h';obtain⟨_,_,e,_⟩:=h';cases e
  |lst _=>rw[cX]at h';obtain⟨_,_,e,_⟩:=h';cases e
  |dct _ _=>exact(iJ pb).elim
  |obj _ _ _=>exact(iV pb).elim
  |exc _ _ _=>exact(iX pb).elim
 |.str x,b,v,pa,pb,h,h'=>by
  rw[gJ]at h;subst h;cases b with
  |non=>rw[md]at h';cases h'
  |bl _=>rw[lM]at h';cases h'
  |int _=>rw[gG]at h';cases h'
  |str _=>rw[gJ]at h';cases h';rfl
  |tup _=>rw[cZ]at h';obtain⟨_,_,e,_⟩:=h';cases e
  |lst _=>rw[cX]at h';obtain⟨_,_,e,_⟩:=h';cases e
  |dct _ _=>exact(iJ pb).elim
  |obj _ _ _=>exact(iV pb).elim
  |exc _ _ _=>exact(iX pb).elim
 |.tup xs,b,v,pa,pb,h,h'=>by
  rw[cZ]at h;obtain⟨a,vs,e,h1,h2⟩:=h;subst e;cases b with
  |non=>rw[md]at h';cases h'
  |bl _=>rw[lM]at h';cases h'
  |int _=>rw[gG]at h';cases h'
  |str _=>rw[gJ]at h';cases h'
  |tup ys=>
   rw[cZ]at h';obtain⟨a',vs',e,h1',h2'⟩:=h';cases e;have ev:=I.tuple_inj (qv.of h1) (qv.of h1');subst ev;rw[Inv.denL_inj I (by first|rw[<-fH];exact pa|rw[<-fG];exact pa) (by first|rw[<-fH];exact pb|rw[<-fG];exact pb) h2 h2']
  |lst _=>rw[cX]at h';obtain⟨_,_,e,h1',_⟩:=h';cases e;exact(Inv.not_both I (qv.of h1) h1').elim
  |dct _ _=>exact(iJ pb).elim
  |obj _ _ _=>exact(iV pb).elim
  |exc _ _ _=>exact(iX pb).elim
 |.lst xs,b,v,pa,pb,h,h'=>by
  rw[cX]at h;obtain⟨a,vs,e,h1,h2⟩:=h;subst e;cases b with
  |non=>rw[md]at h';cases h'
  |bl _=>rw[lM]at h';cases h'
  |int _=>rw[gG]at h';cases h'
  |str _=>rw[gJ]at h';cases h'
  |lst ys=>
   rw[cX]at h';obtain⟨a',vs',e,h1',h2'⟩:=h';cases e;have ev:=I.list_inj h1 h1';subst ev;rw[Inv.denL_inj I (by first|rw[<-fH];exact pa|rw[<-fG];exact pa) (by first|rw[<-fH];exact pb|rw[<-fG];exact pb) h2 h2']
  |tup _=>rw[cZ]at h';obtain⟨_,_,e,h1',_⟩:=h';cases e;exact(Inv.not_both I (qv.of h1') h1).elim
  |dct _ _=>exact(iJ pb).elim
  |obj _ _ _=>exact(iV pb).elim
  |exc _ _ _=>exact(iX pb).elim
 |.dct _ _,_,_,pa,_,_,_=>(iJ pa).elim
 |.obj _ _ _,_,_,pa,_,_,_=>(iV pa).elim
 |.exc _ _ _,_,_,pa,_,_,_=>(iX pa).elim
def Inv.denL_inj(I:Inv X pins σ H s):∀{as bs:List D}{vs:List V},oV as=true->oV bs=true->bx X.K H as vs->bx X.K H bs vs->as=bs
 |[],bs,vs,pa,pb,h,h'=>by
  rw[dA]at h;subst h;cases bs with
  |nil=>rfl
  |cons b bs=>rw[bP]at h';obtain⟨_,_,e,_⟩:=h';cases e
 |a::as,bs,vs,pa,pb,h,h'=>by
  rw[bP]at h;obtain⟨v,r,e,h1,h2⟩:=h;subst e;cases bs with
  |nil=>rw[dA]at h';cases h'
  |cons b bs=>
   rw[bP]at h';obtain⟨v',r',e,h1',h2'⟩:=h';cases e;unfold oV at pa pb;rw[Pn]at pa pb;rw[Inv.den_inj I pa.1 pb.1 h1 h1',Inv.denL_inj I pa.2 pb.2 h2 h2']
end
def oQ:D->Option V
 |.non=>some .non
 |.bl b=>some (.bl b)
 |.int i=>some (.int i)
 |.str x=>some (.str x)
 |_=>none
def qY{K:Q7}{d:D}{v x:V}(h:oQ d=some x)(hd:dD K H d v):v=x/\Ej x=true:=by
 cases d with
 |non=>cases h;exact⟨md.mp hd,rfl⟩
 |bl b=>cases h;exact⟨lM.mp hd,rfl⟩
 |int i=>cases h;exact⟨gG.mp hd,rfl⟩
 |str y=>cases h;exact⟨gJ.mp hd,rfl⟩
 |_=>cases h
def GV{a b:D}{x y:V}(ha:oQ a=some x)(hb:oQ b=some y):MU x y=pyEq a b:=by
 cases a<;>cases ha<;>cases b<;>cases hb<;>(unfold pyEq MU;rfl)
def xO{a:D}{x:V}(n:Nat)(h:oQ a=some x):gF n a=true:=by
 cases a with
 |tup _=>cases h
 |lst _=>cases h
 |dct _ _=>cases h
 |obj _ _ _=>cases h
 |exc _ _ _=>cases h
 |_=>cases n<;>rfl
def xY{a:D}(h:oQ a=none):gF 0 a=false:=by
 cases a with
 |tup _=>rfl
 |lst _=>rfl
 |dct _ _=>rfl
 |obj _ _ _=>rfl
 |exc _ _ _=>rfl
 |_=>cases h
theorem in1_units(A:Sv):A.in1.units=A.units+1:=rfl
def pN{vs:List V}{us:List Se}(r:Vals vs us){j:Nat}(h:j<us.toArray.size):∃x,vs[j]?=some x/\RelV x us.toArray[j]:=by
 have hj:j<us.length:=by simpa using h
 have hl:=r.length;have hv:j<vs.length:=by omega
 obtain⟨u,e,ru⟩:=r.get (i:=j) (x:=vs[j]) (by simp[hv]);refine⟨vs[j],by simp[hv],?_⟩;have e2:us.toArray[j]=u:=by
  rw[PX hj]at e
  simpa using Option.some.inj e
 rw[e2];exact ru
def pc{K:Q7}{ds:List D}{vs:List V}(h:bx K H ds vs){j:Nat}{x:V}(e:vs[j]?=some x):∃d,ds[j]?=some d/\dD K H d x:=by
 have hj:j<vs.length:=(List.getElem?_eq_some_iff.mp e).1;have hl:=h.length;have hd:j<ds.length:=by omega
 obtain⟨v,e1,e2⟩:=h.get (i:=j) (d:=ds[j]) (by simp[hd]);rw[e]at e1;cases e1;exact⟨ds[j],by simp[hd],e2⟩
def Dl(I:Inv X pins σ H s):∀(n:Nat)(a b:D)(x y:V)(u v:Se)(A:Sv),pl a=true->pl b=true->(gF n a=true\/gF n b=true)->dD X.K H a x->dD X.K H b y->RelV x u->RelV y v->A.units+n<S6->EqAt A s u v (pyEq a b):=by
 intro n
 induction n with
 |zero=>
  intro a b x y u v A pa pb hd ha hb ru rv hA;have hu:A.units<S6:=hA;cases ha':oQ a with
  |some x'=>
   obtain⟨e,f⟩:=qY ha' ha;subst e;cases hb':oQ b with
   |some y'=>
    obtain⟨e,f'⟩:=qY hb' hb;subst e;rw[<-GV ha' hb'];exact Il ru rv f f'
   |none=>
    cases b with
    |tup ys=>
     rw[cZ]at hb;obtain⟨p,vs,e,h1,h2⟩:=hb;subst e;cases rv;obtain⟨its,_,ht,_⟩:=I.tuple (qv.of h1);have ht':s.heap.IsTuple p its.toArray:=ht;cases a with
     |non=>cases ha';cases ru;unfold pyEq;exact .none_tuple ht' hu
     |bl z=>cases ha';cases ru;unfold pyEq;exact .bool_tuple z ht' hu
     |int z=>cases ha';obtain⟨t,rfl⟩:=ru;unfold pyEq;exact .int_tuple z t ht' hu
     |str z=>cases ha';obtain⟨t,rfl⟩:=ru;unfold pyEq;exact .str_tuple z t ht' hu
     |_=>cases ha'
    |lst ys=>
     rw[cX]at hb;obtain⟨p,vs,e,h1,h2⟩:=hb;subst e;cases rv;obtain⟨its,_,ht,_⟩:=I.list h1;have ht':s.heap.IsList p its.toArray:=ht.isList;cases a with
     |non=>cases ha';cases ru;unfold pyEq;exact .none_list ht' hu
     |bl z=>cases ha';cases ru;unfold pyEq;exact .bool_list z ht' hu
     |int z=>cases ha';obtain⟨t,rfl⟩:=ru;unfold pyEq;exact .int_list z t ht' hu
     |str z=>cases ha';obtain⟨t,rfl⟩:=ru;unfold pyEq;exact .str_list z t ht' hu
     |_=>cases ha'
    |dct _ _=>exact(iJ pb).elim
    |obj _ _ _=>exact(iV pb).elim
    |exc _ _ _=>exact(iX pb).elim
    |_=>cases hb'
  |none=>
   have hdb:gF 0 b=true:=by
    rcases hd with hd|hd
    ·rw[xY ha']at hd;cases hd
    ·exact hd
   cases hb':oQ b with
   |none=>rw[xY hb']at hdb;cases hdb
   |some y'=>
    obtain⟨e,f'⟩:=qY hb' hb;subst e;cases a with
    |tup xs=>
     rw[cZ]at ha;obtain⟨p,vs,e,h1,h2⟩:=ha;subst e;cases ru;obtain⟨its,_,ht,_⟩:=I.tuple (qv.of h1);have ht':s.heap.IsTuple p its.toArray:=ht;cases b with
     |non=>cases hb';cases rv;unfold pyEq;exact .tuple_none ht' hu
     |bl z=>cases hb';cases rv;unfold pyEq;exact .tuple_bool z ht' hu
     |int z=>cases hb';obtain⟨t,rfl⟩:=rv;unfold pyEq;exact .tuple_int z t ht' hu
     |str z=>cases hb';obtain⟨t,rfl⟩:=rv;unfold pyEq;exact .tuple_str z t ht' hu
     |_=>cases hb'
    |lst xs=>
     rw[cX]at ha;obtain⟨p,vs,e,h1,h2⟩:=ha;subst e;cases ru;obtain⟨its,_,ht,_⟩:=I.list h1;have ht':s.heap.IsList p its.toArray:=ht.isList;cases b with
     |non=>cases hb';cases rv;unfold pyEq;exact .list_none ht' hu
     |bl z=>cases hb';cases rv;unfold pyEq;exact .list_bool z ht' hu
     |int z=>cases hb';obtain⟨t,rfl⟩:=rv;unfold pyEq;exact .list_int z t ht' hu
     |str z=>cases hb';obtain⟨t,rfl⟩:=rv;unfold pyEq;exact .list_str z t ht' hu
     |_=>cases hb'
    |dct _ _=>exact(iJ pa).elim
    |obj _ _ _=>exact(iV pa).elim
    |exc _ _ _=>exact(iX pa).elim
    |_=>cases ha'
 |succ n ih=>
  intro a b x y u v A pa pb hd ha hb ru rv hA;have hu:A.units<S6:=by omega
  have flatWay:(∀xs ys,¬(a=.tup xs/\b=.tup ys))->(∀xs ys,¬(a=.lst xs/\b=.lst ys))->EqAt A s u v (pyEq a b):=by
   intro n1 n2;cases ha':oQ a with
   |some x'=>exact ih a b x y u v A pa pb (.inl (xO n ha')) ha hb ru rv ‹0›
   |none=>
    cases hb':oQ b with
    |some y'=>exact ih a b x y u v A pa pb (.inr (xO n hb')) ha hb ru rv ‹0›
    |none=>
     cases a with
     |tup xs=>
      cases b with
      |tup ys=>exact absurd ⟨rfl,rfl⟩ (n1 xs ys)
      |lst ys=>
       rw[cZ]at ha;obtain⟨p,vs,e,h1,h2⟩:=ha;subst e;rw[cX]at hb;obtain⟨p',vs',e,h1',h2'⟩:=hb;subst e;cases ru;cases rv;obtain⟨its,_,ht,_⟩:=I.tuple (qv.of h1);obtain⟨its2,_,ht2,_⟩:=I.list h1';unfold pyEq;exact .tuple_list (show s.heap.IsTuple p its.toArray from ht) ht2.isList hu
      |dct _ _=>exact(iJ pb).elim
      |obj _ _ _=>exact(iV pb).elim
      |exc _ _ _=>exact(iX pb).elim
      |_=>cases hb'
     |lst xs=>
      cases b with
      |lst ys=>exact absurd ⟨rfl,rfl⟩ (n2 xs ys)
      |tup ys=>
       rw[cX]at ha;obtain⟨p,vs,e,h1,h2⟩:=ha;subst e;rw[cZ]at hb;obtain⟨p',vs',e,h1',h2'⟩:=hb;subst e;cases ru;cases rv;obtain⟨its,_,ht,_⟩:=I.list h1;obtain⟨its2,_,ht2,_⟩:=I.tuple (qv.of h1');unfold pyEq;exact .list_tuple ht.isList (show s.heap.IsTuple p' its2.toArray from ht2) hu
      |dct _ _=>exact(iJ pb).elim
      |obj _ _ _=>exact(iV pb).elim
      |exc _ _ _=>exact(iX pb).elim
      |_=>cases hb'
     |dct _ _=>exact(iJ pa).elim
     |obj _ _ _=>exact(iV pa).elim
     |exc _ _ _=>exact(iX pa).elim
     |_=>cases ha'
  have items:∀(xs ys:List D)(vs vs':List V)(its its':List Se),oV xs=true->oV ys=true->(gF (n+1) (.tup xs)=true\/gF (n+1) (.tup ys)=true)->bx X.K H xs vs->bx X.K H ys vs'->Vals vs its->Vals vs' its'->
    ∀j (h1:j<its.toArray.size) (h2:j<its'.toArray.size),EqAt A.in1 s its.toArray[j] its'.toArray[j] (zA xs ys j):=by
   intro xs ys vs vs' its its' px py hdd hx hy rx ry j h1 h2;obtain⟨w1,e1,r1⟩:=pN rx h1;obtain⟨w2,e2,r2⟩:=pN ry h2;obtain⟨d1,f1,g1⟩:=pc hx e1;obtain⟨d2,f2,g2⟩:=pc hy e2;have e3:zA xs ys j=pyEq d1 d2:=(by unfold zA;rw[f1,f2]);rw[e3];refine ih d1 d2 w1 w2 _ _ A.in1 (n8 px _ (Pj f1)) (n8 py _ (Pj f2)) ?_ g1 g2 r1 r2 (by rw[in1_units];omega);rcases hdd with hdd|hdd
   ·exact .inl (List.all_eq_true.mp hdd d1 (Pj f1))
   ·exact .inr (List.all_eq_true.mp hdd d2 (Pj f2))
  by_cases hT:∃xs ys,a=.tup xs/\b=.tup ys
  ·obtain⟨xs,ys,rfl,rfl⟩:=hT;have da:=ha;have db:=hb;rw[cZ]at ha hb;obtain⟨p,vs,e,h1,h2⟩:=ha;subst e;obtain⟨p',vs',e,h1',h2'⟩:=hb;subst e;cases ru;cases rv;by_cases hp:p=p'
   ·subst hp;have e:=Inv.den_inj I pa pb da db;rw[e,qM];exact EqAt.same _
   ·obtain⟨its,rv1,ht,_⟩:=I.tuple (qv.of h1);obtain⟨its2,rv2,ht2,_⟩:=I.tuple (qv.of h1');refine EqAt.of_refs hp ?_;have q:=RcAt.tuples (e:=zA xs ys) (show s.heap.IsTuple p its.toArray from ht) (show s.heap.IsTuple p' its2.toArray from ht2) hu (items xs ys vs vs' its its2 (by first|rw[<-fH];exact pa|rw[<-fG];exact pa) (by first|rw[<-fH];exact pb|rw[<-fG];exact pb) hd h2 h2' rv1 rv2);have z1:its.toArray.size=xs.length:=(by rw[OW,<-rv1.length,<-h2.length]);have z2:its2.toArray.size=ys.length:=(by rw[OW,<-rv2.length,<-h2'.length]);rw[z1,z2,iH]at q;unfold pyEq;exact q
  ·by_cases hL:∃xs ys,a=.lst xs/\b=.lst ys
   ·obtain⟨xs,ys,rfl,rfl⟩:=hL;have da:=ha;have db:=hb;rw[cX]at ha hb;obtain⟨p,vs,e,h1,h2⟩:=ha;subst e;obtain⟨p',vs',e,h1',h2'⟩:=hb;subst e;cases ru;cases rv;by_cases hp:p=p'
    ·subst hp;have e:=Inv.den_inj I pa pb da db;rw[e,qM];exact EqAt.same _
    ·obtain⟨its,rv1,ht,_⟩:=I.list h1;obtain⟨its2,rv2,ht2,_⟩:=I.list h1';refine EqAt.of_refs hp ?_;have z1:its.toArray.size=xs.length:=(by rw[OW,<-rv1.length,<-h2.length]);have z2:its2.toArray.size=ys.length:=(by rw[OW,<-rv2.length,<-h2'.length]);have er:=iH xs ys;by_cases hz:its.toArray.size=its2.toArray.size
     ·have q:=RcAt.lists (e:=zA xs ys) ht.isList ht2.isList hz hu (items xs ys vs vs' its its2 (by first|rw[<-fH];exact pa|rw[<-fG];exact pa) (by first|rw[<-fH];exact pb|rw[<-fG];exact pb) hd h2 h2' rv1 rv2);rw[z1]at q;have hz':xs.length=ys.length:=(by omega);rw[<-hz',PY]at er;simp only[beq_self_eq_true,PZ]at er;rw[er]at q;unfold pyEq;exact q
     ·have hne:(its.toArray.size !=its2.toArray.size)=true:=(by simpa using hz);have q:=RcAt.lists_lengths (A:=A) ht.isList ht2.isList hne hu;have hz':(xs.length==ys.length)=false:=by
       rw[z1,z2]at hz
       simpa using hz
      rw[hz',Pr]at er;unfold pyEq;rw[<-er];exact q
   ·exact flatWay (λxs ys z=>hT ⟨xs,ys,z⟩) λxs ys z=>hL ⟨xs,ys,z⟩
end
end TG
namespace TG
open PySem PySem.Spec L2
variable[bh]
open PySem.SeqAt (EqAt RcAt RcNeAt)
section
variable{X:Cx}{pins:List (Si×Obj)}{σ:St}{H:Hp}{s:Sw}
def si(I:Inv X pins σ H s){n:Nat}{xs ys:List D}{vs vs':List V}{its its':List Se}{A:Sv}(px:oV xs=true)(py:oV ys=true)(hdd:gF (n+1) (.tup xs)=true\/gF (n+1) (.tup ys)=true)(hx:bx X.K H xs vs)(hy:bx X.K H ys vs')(rx:Vals vs its)(ry:Vals vs' its')(hA:A.units+n<S6):
  ∀j (h1:j<its.toArray.size) (h2:j<its'.toArray.size),EqAt A s its.toArray[j] its'.toArray[j] (zA xs ys j):=by
 intro j h1 h2;obtain⟨w1,e1,r1⟩:=pN rx h1;obtain⟨w2,e2,r2⟩:=pN ry h2;obtain⟨d1,f1,g1⟩:=pc hx e1;obtain⟨d2,f2,g2⟩:=pc hy e2;have e3:zA xs ys j=pyEq d1 d2:=by unfold zA;rw[f1,f2]
 rw[e3];refine Dl I n d1 d2 w1 w2 _ _ A (n8 px _ (Pj f1)) (n8 py _ (Pj f2)) ?_ g1 g2 r1 r2 hA;rcases hdd with hdd|hdd
 ·exact .inl (List.all_eq_true.mp hdd d1 (Pj f1))
 ·exact .inr (List.all_eq_true.mp hdd d2 (Pj f2))
inductive Way(I:Inv X pins σ H s):D->Se->Prop where
 |non:Way I .non .none
 |bl (b:Bool):Way I (.bl b) (.bool b)
 |int (i:Int) (t:Tok):Way I (.int i) (.int i t)
 |str (x:Str) (t:Tok):Way I (.str x) (.str x t)
 |tup {xs:List D} {p:Si} {vs:List V} {its:List Se} (h:bx X.K H xs vs) (r:Vals vs its) (t:s.heap.IsTuple p its.toArray):Way I (.tup xs) (.ref p)
 |lst {xs:List D} {p:Si} {vs:List V} {its:List Se} (h:bx X.K H xs vs) (r:Vals vs its) (t:s.heap.IsList p its.toArray):Way I (.lst xs) (.ref p)
def top:D->Bool
 |.dct _ _=>false
 |.obj _ _ _=>false
 |.exc _ _ _=>false
 |_=>true
def iy{d:D}(h:pl d=true):top d=true:=by
 cases d with
 |dct _ _=>exact(iJ h).elim
 |obj _ _ _=>exact(iV h).elim
 |exc _ _ _=>exact(iX h).elim
 |_=>rfl
def gR(I:Inv X pins σ H s){d:D}{v:V}{u:Se}(pd:top d=true)(h:dD X.K H d v)(r:RelV v u):Way I d u:=by
 cases d with
 |non=>rw[md]at h;subst h;cases r;exact .non
 |bl b=>rw[lM]at h;subst h;cases r;exact .bl b
 |int i=>rw[gG]at h;subst h;obtain⟨t,rfl⟩:=r;exact .int i t
 |str x=>rw[gJ]at h;subst h;obtain⟨t,rfl⟩:=r;exact .str x t
 |tup xs=>
  rw[cZ]at h;obtain⟨p,vs,e,h1,h2⟩:=h;subst e;cases r;obtain⟨its,rv,ht,_⟩:=I.tuple (qv.of h1);exact .tup h2 rv ht
 |lst xs=>
  rw[cX]at h;obtain⟨p,vs,e,h1,h2⟩:=h;subst e;cases r;obtain⟨its,rv,ht,_⟩:=I.list h1;exact .lst h2 rv ht.isList
 |dct _ _=>cases pd
 |obj _ _ _=>cases pd
 |exc _ _ _=>cases pd
def IE(I:Inv X pins σ H s){n:Nat}{a b:D}{x y:V}{u v:Se}{A:Sv}(pa:pl a=true)(pb:pl b=true)(hd:gF (n+1) a=true\/gF (n+1) b=true)(ha:dD X.K H a x)(hb:dD X.K H b y)(ru:RelV x u)(rv:RelV y v)(hA:A.units+n+1<S6):RcAt A s u v (pyEq a b):=by
 have hu:A.units<S6:=by omega
 cases gR I (iy pa) ha ru with
 |non=>cases gR I (iy pb) hb rv with
  |non=>unfold pyEq;exact .none_none
  |bl b=>unfold pyEq;exact .none_bool b
  |int i t=>unfold pyEq;exact .none_int i t
  |str x t=>unfold pyEq;exact .none_str x t
  |tup h r t=>unfold pyEq;exact .none_tuple t hu
  |lst h r t=>unfold pyEq;exact .none_list t hu
 |bl z=>cases gR I (iy pb) hb rv with
  |non=>unfold pyEq;exact .bool_none z
  |bl b=>unfold pyEq;exact .bool_bool z b
  |int i t=>unfold pyEq;exact .bool_int z i t
  |str x t=>unfold pyEq;exact .bool_str z x t
  |tup h r t=>unfold pyEq;exact .bool_tuple z t hu
  |lst h r t=>unfold pyEq;exact .bool_list z t hu
 |int z tz=>cases gR I (iy pb) hb rv with
  |non=>unfold pyEq;exact .int_none z tz
  |bl b=>unfold pyEq;exact .int_bool z tz b
  |int i t=>unfold pyEq;exact .int_int z tz i t
  |str x t=>unfold pyEq;exact .int_str z tz x t
  |tup h r t=>unfold pyEq;exact .int_tuple z tz t hu
  |lst h r t=>unfold pyEq;exact .int_list z tz t hu
 |str z tz=>cases gR I (iy pb) hb rv with
  |non=>unfold pyEq;exact .str_none z tz
  |bl b=>unfold pyEq;exact .str_bool z tz b
  |int i t=>unfold pyEq;exact .str_int z tz i t
  |str x t=>unfold pyEq;exact .str_str z tz x t
  |tup h r t=>unfold pyEq;exact .str_tuple z tz t hu
  |lst h r t=>unfold pyEq;exact .str_list z tz t hu
 |@tup xs p vs its h1 r1 t1=>cases gR I (iy pb) hb rv with
  |non=>unfold pyEq;exact .tuple_none t1 hu
  |bl b=>unfold pyEq;exact .tuple_bool b t1 hu
  |int i t=>unfold pyEq;exact .tuple_int i t t1 hu
  |str x t=>unfold pyEq;exact .tuple_str x t t1 hu
  |@tup ys p' vs' its' h2 r2 t2=>
   have q:=RcAt.tuples (e:=zA xs ys) t1 t2 hu (si (A:=A.in1) I (by first|rw[<-fH];exact pa|rw[<-fG];exact pa) (by first|rw[<-fH];exact pb|rw[<-fG];exact pb) hd h1 h2 r1 r2 (by rw[in1_units];omega));have z1:its.toArray.size=xs.length:=(by rw[OW,<-r1.length,<-h1.length]);have z2:its'.toArray.size=ys.length:=(by rw[OW,<-r2.length,<-h2.length]);rw[z1,z2,iH]at q;unfold pyEq;exact q
  |lst h r t=>unfold pyEq;exact .tuple_list t1 t hu
 |@lst xs p vs its h1 r1 t1=>cases gR I (iy pb) hb rv with
  |non=>unfold pyEq;exact .list_none t1 hu
  |bl b=>unfold pyEq;exact .list_bool b t1 hu
  |int i t=>unfold pyEq;exact .list_int i t t1 hu
  |str x t=>unfold pyEq;exact .list_str x t t1 hu
  |tup h r t=>unfold pyEq;exact .list_tuple t1 t hu
  |@lst ys p' vs' its' h2 r2 t2=>
   have z1:its.toArray.size=xs.length:=(by rw[OW,<-r1.length,<-h1.length]);have z2:its'.toArray.size=ys.length:=(by rw[OW,<-r2.length,<-h2.length]);have er:=iH xs ys;by_cases hz:its.toArray.size=its'.toArray.size
   ·have q:=RcAt.lists (e:=zA xs ys) t1 t2 hz hu (si (A:=A.in1) I (by first|rw[<-fH];exact pa|rw[<-fG];exact pa) (by first|rw[<-fH];exact pb|rw[<-fG];exact pb) hd h1 h2 r1 r2 (by rw[in1_units];omega));rw[z1]at q;have hz':xs.length=ys.length:=(by omega);rw[<-hz',PY]at er;simp only[beq_self_eq_true,PZ]at er;rw[er]at q;unfold pyEq;exact q
   ·have q:=RcAt.lists_lengths (A:=A) t1 t2 (by simpa using hz) hu;have hz':(xs.length==ys.length)=false:=by
     rw[z1,z2]at hz
     simpa using hz
    rw[hz',Pr]at er;unfold pyEq;rw[<-er];exact q
def EC(I:Inv X pins σ H s){n:Nat}{a b:D}{x y:V}{u v:Se}{A:Sv}(pa:pl a=true)(pb:pl b=true)(hd:gF (n+1) a=true\/gF (n+1) b=true)(ha:dD X.K H a x)(hb:dD X.K H b y)(ru:RelV x u)(rv:RelV y v)(hA:A.units+n+1<S6):RcNeAt A s u v (!pyEq a b):=by
 have hu:A.units<S6:=by omega
 cases gR I (iy pa) ha ru with
 |non=>cases gR I (iy pb) hb rv with
  |non=>unfold pyEq;exact .none_none
  |bl b=>unfold pyEq;exact .none_bool b
  |int i t=>unfold pyEq;exact .none_int i t
  |str x t=>unfold pyEq;exact .none_str x t
  |tup h r t=>unfold pyEq;exact .none_tuple t hu
  |lst h r t=>unfold pyEq;exact .none_list t hu
 |bl z=>cases gR I (iy pb) hb rv with
  |non=>unfold pyEq;exact .bool_none z
  |bl b=>unfold pyEq;exact .bool_bool z b
  |int i t=>unfold pyEq;exact .bool_int z i t
  |str x t=>unfold pyEq;exact .bool_str z x t
  |tup h r t=>unfold pyEq;exact .bool_tuple z t hu
  |lst h r t=>unfold pyEq;exact .bool_list z t hu
 |int z tz=>cases gR I (iy pb) hb rv with
  |non=>unfold pyEq;exact .int_none z tz
  |bl b=>unfold pyEq;exact .int_bool z tz b
  |int i t=>unfold pyEq;exact .int_int z tz i t
  |str x t=>unfold pyEq;exact .int_str z tz x t
  |tup h r t=>unfold pyEq;exact .int_tuple z tz t hu
  |lst h r t=>unfold pyEq;exact .int_list z tz t hu
 |str z tz=>cases gR I (iy pb) hb rv with
  |non=>unfold pyEq;exact .str_none z tz
  |bl b=>unfold pyEq;exact .str_bool z tz b
  |int i t=>unfold pyEq;exact .str_int z tz i t
  |str x t=>unfold pyEq;exact .str_str z tz x t
  |tup h r t=>unfold pyEq;exact .str_tuple z tz t hu
  |lst h r t=>unfold pyEq;exact .str_list z tz t hu
 |@tup xs p vs its h1 r1 t1=>cases gR I (iy pb) hb rv with
  |non=>unfold pyEq;exact .tuple_none t1 hu
  |bl b=>unfold pyEq;exact .tuple_bool b t1 hu
  |int i t=>unfold pyEq;exact .tuple_int i t t1 hu
  |str x t=>unfold pyEq;exact .tuple_str x t t1 hu
  |@tup ys p' vs' its' h2 r2 t2=>
   have q:=RcNeAt.tuples (e:=zA xs ys) t1 t2 hu (si (A:=A.in1) I (by first|rw[<-fH];exact pa|rw[<-fG];exact pa) (by first|rw[<-fH];exact pb|rw[<-fG];exact pb) hd h1 h2 r1 r2 (by rw[in1_units];omega));have z1:its.toArray.size=xs.length:=(by rw[OW,<-r1.length,<-h1.length]);have z2:its'.toArray.size=ys.length:=(by rw[OW,<-r2.length,<-h2.length]);rw[z1,z2,iH]at q;unfold pyEq;exact q
  |lst h r t=>unfold pyEq;exact .tuple_list t1 t hu
 |@lst xs p vs its h1 r1 t1=>cases gR I (iy pb) hb rv with
  |non=>unfold pyEq;exact .list_none t1 hu
  |bl b=>unfold pyEq;exact .list_bool b t1 hu
  |int i t=>unfold pyEq;exact .list_int i t t1 hu
  |str x t=>unfold pyEq;exact .list_str x t t1 hu
  |tup h r t=>unfold pyEq;exact .list_tuple t1 t hu
  |@lst ys p' vs' its' h2 r2 t2=>
   have z1:its.toArray.size=xs.length:=(by rw[OW,<-r1.length,<-h1.length]);have z2:its'.toArray.size=ys.length:=(by rw[OW,<-r2.length,<-h2.length]);have er:=iH xs ys;by_cases hz:its.toArray.size=its'.toArray.size
   ·have q:=RcNeAt.lists (e:=zA xs ys) t1 t2 hz hu (si (A:=A.in1) I (by first|rw[<-fH];exact pa|rw[<-fG];exact pa) (by first|rw[<-fH];exact pb|rw[<-fG];exact pb) hd h1 h2 r1 r2 (by rw[in1_units];omega));rw[z1]at q;have hz':xs.length=ys.length:=(by omega);rw[<-hz',PY]at er;simp only[beq_self_eq_true,PZ]at er;rw[er]at q;unfold pyEq;exact q
   ·have q:=RcNeAt.lists_lengths (A:=A) t1 t2 (by simpa using hz) hu;have hz':(xs.length==ys.length)=false:=by
     rw[z1,z2]at hz
     simpa using hz
    rw[hz',Pr]at er;unfold pyEq;rw[<-er];exact q
end
section
variable{X:Cx}
def rD(K:Q7)(g:D->D->Option D):R2:=λx y H Q=>∃O a b d,fT H O/\dD K (hid H O) a x/\dD K (hid H O) b y/\g a b=some d/\∀v H',bT H H'->dD K (hid H' O) d v->Q v H'
def aw{K:Q7}{g:D->D->Option D}:dE K (rD K g) g:=λa b d x y O H Q hO hg ha hb q=>⟨O,a,b,d,hO,ha,hb,hg,q⟩
def pL{f : Se -> Se -> Sem Se}{g : D -> D -> Option D}(h : ∀ (pins : List (Si × Obj)) (s : Sw) (σ : St) (H : Hp) (a b d : D) (x y : V) (u v : Se), Inv X pins σ H s -> dD X.K H a x -> dD X.K H b y -> RelV x u -> RelV y v -> g a b = some d ->
      ∃c,d=.bl c/\∀(Q:Se->Sw->Prop),Q (.bool c) s->Sy (model X.prog X.w) X.A (f u v) Q X.xe s):kA X f (rD X.K g):=by
  intro pins s σ H x y u v Q I rx ry ⟨O,a,b,d,hO,ha,hb,hg,q⟩;obtain⟨c,rfl,hq⟩:=h pins s σ H a b d x y u v I (ha.mono (aU H O)) (hb.mono (aU H O)) rx ry hg;exact hq _ ⟨.bl c,H,I,rfl,q _ H (bT.refl H) (lM.mpr rfl)⟩
def kH(a b:D):Option D:=if(pl a&&pl b)&&(gF 8 a||gF 8 b)then some (.bl (pyEq a b))else none
def zm(a b:D):Option D:=if(pl a&&pl b)&&(gF 8 a||gF 8 b)then some (.bl (!pyEq a b))else none
def de(hu:X.A.units+64<S6):kA X (SV .Eq) (rD X.K kH):=pL λpins s σ H a b d x y u v I ha hb ru rv hg=>by
 obtain⟨h1,h2⟩:=cq hg;subst h2;rw[Pn,Pn,P0]at h1;exact⟨_,rfl,λQ q=>IE (n:=7) (A:=X.A) I h1.1.1 h1.1.2 h1.2 ha hb ru rv ‹0› X.prog X.w X.xe Q q⟩
def wV(hu:X.A.units+64<S6):kA X (SV .NotEq) (rD X.K zm):=pL λpins s σ H a b d x y u v I ha hb ru rv hg=>by
 obtain⟨h1,h2⟩:=cq hg;subst h2;rw[Pn,Pn,P0]at h1;exact⟨_,rfl,λQ q=>EC (n:=7) (A:=X.A) I h1.1.1 h1.1.2 h1.2 ha hb ru rv ‹0› X.prog X.w X.xe Q q⟩
def inD(x:D)(ys:List D):Bool:=ys.any λy=>pyEq y x
def Fi(x y:D):Option D:=match y with
 |.tup ys=>if(pl x&&oV ys)&&gF 8 x then some (.bl (inD x ys))else none
 |.lst ys=>if(pl x&&oV ys)&&gF 8 x then some (.bl (inD x ys))else none
 |_=>none
def sV(x y:D):Option D:=match y with
 |.tup ys=>if(pl x&&oV ys)&&gF 8 x then some (.bl (!inD x ys))else none
 |.lst ys=>if(pl x&&oV ys)&&gF 8 x then some (.bl (!inD x ys))else none
 |_=>none
open Classical in
def Bn{pins:List (Si×Obj)}{σ:St}{H:Hp}{s:Sw}(I:Inv X pins σ H s){xd:D}{x:V}{u:Se}{A:Sv}(px:pl xd=true)(hd:gF 8 xd=true)(hx:dD X.K H xd x)(ru:RelV x u)(hA:A.units+8<S6){ys:List D}{vs:List V}{its:List Se}(py:oV ys=true)(hy:bx X.K H ys vs)(rv:Vals vs its):
  ∃e:Se->Bool,(∀y,y∈its.toArray->EqAt A s y u (e y))/\its.toArray.any e=inD xd ys:=by
 let e:Se->Bool:=λy=>decide (∃d w,pl d=true/\dD X.K H d w/\RelV w y/\pyEq d xd=true)
 have he:∀d w y,pl d=true->dD X.K H d w->RelV w y->e y=pyEq d xd:=λd w y h0 h1 h2=>by
  cases hq:pyEq d xd with
  |true=>exact decide_eq_true ⟨d,w,h0,h1,h2,hq⟩
  |false=>
   refine decide_eq_false ?_;rintro⟨d',w',g0,g1,g2,g3⟩;have ew:=RelV.inj h2 g2;subst ew;rw[Inv.den_inj I h0 g0 h1 g1,g3]at hq;cases hq
 refine⟨e,λy hy'=>?_,?_⟩
 ·have hm:y∈its:=by simpa using hy'
  obtain⟨j,hj,rfl⟩:=P4 hm;obtain⟨w,e1,r1⟩:=pN rv (j:=j) (by simpa using hj);obtain⟨d,f1,g1⟩:=pc hy e1;have r1':RelV w its[j]:=by simpa using r1
  have pd:=n8 py _ (Pj f1);rw[he d w _ pd g1 r1'];exact Dl I 8 d xd w x _ u A pd px (.inr hd) g1 hx r1' ru hA
 ·unfold inD;have go:∀(ys:List D)(vs:List V)(its:List Se),oV ys=true->bx X.K H ys vs->Vals vs its->its.any e=ys.any λy=>pyEq y xd:=by
   intro ys
   induction ys with
   |nil=>
    intro vs its py h r;rw[dA]at h;subst h;cases r;rfl
   |cons y ys ih=>
    intro vs its py h r;unfold oV at py;rw[Pn]at py;rw[bP]at h;obtain⟨v,r',e1,h1,h2⟩:=h;subst e1;cases r with
    |cons q1 q2=>rw[Pw,Pw,he y v _ py.1 h1 q1,ih _ _ py.2 h2 q2]
  rw[List.any_toArray];exact go ys vs its py hy rv
def w6(hu:X.A.units+64<S6):kA X (SV .In) (rD X.K Fi):=pL λpins s σ H a b d x y u v I ha hb ru rv hg=>by
 cases b with
 |tup ys=>
  obtain⟨h1,h2⟩:=cq hg;subst h2;rw[Pn,Pn]at h1;rw[cZ]at hb;obtain⟨p,vs,e,g1,g2⟩:=hb;subst e;cases rv;obtain⟨its,r,t,_⟩:=I.tuple (qv.of g1);obtain⟨e,he,ea⟩:=Bn (A:=X.A.in1) I h1.1.1 h1.2 ha ru (by rw[in1_units];omega) h1.1.2 g2 r;exact⟨_,rfl,λQ q=>SeqAt.in_tupleAt e (show s.heap.IsTuple p its.toArray from t) he (by rw[ea];exact q)⟩
 |lst ys=>
  obtain⟨h1,h2⟩:=cq hg;subst h2;rw[Pn,Pn]at h1;rw[cX]at hb;obtain⟨p,vs,e,g1,g2⟩:=hb;subst e;cases rv;obtain⟨its,r,t,_⟩:=I.list g1;obtain⟨e,he,ea⟩:=Bn (A:=X.A.in1) I h1.1.1 h1.2 ha ru (by rw[in1_units];omega) h1.1.2 g2 r;exact⟨_,rfl,λQ q=>SeqAt.in_listAt e t.isList he (by rw[ea];exact q)⟩
 |_=>cases hg
def wg(hu:X.A.units+64<S6):kA X (SV .NotIn) (rD X.K sV):=pL λpins s σ H a b d x y u v I ha hb ru rv hg=>by
 cases b with
 |tup ys=>
  obtain⟨h1,h2⟩:=cq hg;subst h2;rw[Pn,Pn]at h1;rw[cZ]at hb;obtain⟨p,vs,e,g1,g2⟩:=hb;subst e;cases rv;obtain⟨its,r,t,_⟩:=I.tuple (qv.of g1);obtain⟨e,he,ea⟩:=Bn (A:=X.A.in1) I h1.1.1 h1.2 ha ru (by rw[in1_units];omega) h1.1.2 g2 r;exact⟨_,rfl,λQ q=>SeqAt.notIn_tupleAt e (show s.heap.IsTuple p its.toArray from t) he (by rw[ea];exact q)⟩
 |lst ys=>
  obtain⟨h1,h2⟩:=cq hg;subst h2;rw[Pn,Pn]at h1;rw[cX]at hb;obtain⟨p,vs,e,g1,g2⟩:=hb;subst e;cases rv;obtain⟨its,r,t,_⟩:=I.list g1;obtain⟨e,he,ea⟩:=Bn (A:=X.A.in1) I h1.1.1 h1.2 ha ru (by rw[in1_units];omega) h1.1.2 g2 r;exact⟨_,rfl,λQ q=>SeqAt.notIn_listAt e t.isList he (by rw[ea];exact q)⟩
 |_=>cases hg
def Ha(p:Int->Int->D)(a b:D):Option D:=match a,b with
 |.int i,.int j=>some (p i j)
 |_,_=>none
def Ol:=Ha λi j=>.bl (decide (i<j))
def L5:=Ha λi j=>.bl (decide (i<=j))
def NX:=Ha λi j=>.bl (decide (j<i))
def Oo:=Ha λi j=>.bl (decide (j<=i))
def og{K:Q7}{g:Int->Int->Bool}:dE K (C1 λi j=>.bl (g i j)) (Ha λi j=>.bl (g i j)):=λa b d x y O H Q hO hg ha hb q=>by
 cases a with
 |int i=>
  cases b with
  |int j=>cases hg;exact⟨i,j,gG.mp ha,gG.mp hb,q _ H (bT.refl H) (lM.mpr rfl)⟩
  |_=>cases hg
 |_=>cases hg
def tI{K:Q7}{g:Int->Int->Int}:dE K (C1 λi j=>.int (g i j)) (Ha λi j=>.int (g i j)):=λa b d x y O H Q hO hg ha hb q=>by
 cases a with
 |int i=>
  cases b with
  |int j=>cases hg;exact⟨i,j,gG.mp ha,gG.mp hb,q _ H (bT.refl H) (gG.mpr rfl)⟩
  |_=>cases hg
 |_=>cases hg
def Jy(c:Int->Int->Bool)(p:Int->Int->Int)(a b:D):Option D:=match a,b with
 |.int i,.int j=>if c i j then some (.int (p i j))else none
 |_,_=>none
def kW{K:Q7}{C:Int->Int->Prop}{c:Int->Int->Bool}{g:Int->Int->Int}(hc:∀i j,c i j=true->C i j):dE K (rI C λi j=>.int (g i j)) (Jy c g):=λa b d x y O H Q hO hg ha hb q=>by
 cases a with
 |int i=>
  cases b with
  |int j=>
   obtain⟨h1,h2⟩:=cq hg;subst h2;exact⟨i,j,gG.mp ha,gG.mp hb,hc i j h1,q _ H (bT.refl H) (gG.mpr rfl)⟩
  |_=>cases hg
 |_=>cases hg
def w8:=Ha λi j=>.int (i-j)
def oI:=Jy (λi j=>decide ((-(2^64)<i/\i<2^64)\/(-(2^64)<j/\j<2^64))) (·*·)
def Hh(_ j:Int):Prop:=0<j/\j<10^200
def bd:kA X (SU .FloorDiv) (rI Hh λi j=>.int (i/j)):=La λi j _ _ _ _ _ hc q=>by
 have h1:(0:Int)<j:=hc.1;have h2:j<10^200:=hc.2;refine PyProof.Rows.floordiv_int ‹0› (by rw[OV i ‹0›];exact q) (.inl (PyProof.noPylong_of_log2 ?_));have h3:j.natAbs<10^200:=by omega
 rw[Nat.log2_lt ‹0›];exact Pz h3 (by decide +kernel)
def dg:=Jy (λ_ j=>decide (0<j/\j<10^200)) (·/·)
def cB:=Jy (λ_ j=>decide (0<j)) (·%·)
def lj:=Jy (λi j=>decide (0<=j/\j<=1000000/\i.natAbs<2^64)) λi j=>i^j.toNat
def oZ{K:Q7}:dE K (C1 λi j=>.int (i-j)) w8:=tI
def jM{K:Q7}:dE K (rI IM λi j=>.int (i*j)) oI:=kW λi j h=>by have q:=of_decide_eq_true h;exact q
def bR{K:Q7}:dE K (rI Hh λi j=>.int (i/j)) dg:=kW λi j h=>by have q:=of_decide_eq_true h;exact q
def bq{K:Q7}:dE K (rI (λ_ j=>0<j) λi j=>.int (i%j)) cB:=kW λ_ _ h=>of_decide_eq_true h
def iR{K:Q7}:dE K (rI Lb λi j=>.int (i^j.toNat)) lj:=kW λi j h=>by have q:=of_decide_eq_true h;exact q
def J1(K:Q7):R2:=λx y H Q=>∃l b xs zs,x=.ref l/\y=.ref b/\o9 K H l xs/\o9 K H b zs/\xs.length+zs.length<=Sn/\∀p,H p=none->Q (.ref p) (upd H p (.lst (xs++zs)))
def Ge:kA X (SU .Add) (J1 X.K):=by
 intro pins s σ H x y v u Q I rx ry h;obtain⟨l,b,xs,zs,rfl,rfl,hH,hB,hz,q⟩:=h;cases rx;cases ry;obtain⟨its,r,t1,_⟩:=I.list hH;obtain⟨its2,r2,t2,_⟩:=I.list hB;obtain⟨⟨c1,d1,dt1,sl1⟩,n1,ho,hc,hd,hdt⟩:=t1;obtain⟨⟨c2,d2,dt2,sl2⟩,n2,ho2,hc2,hd2,hdt2⟩:=t2;simp only at hc hd hdt hc2 hd2 hdt2;subst hc hd hdt hc2 hd2 hdt2;have z1:=r.length;have z2:=r2.length;refine Tf ⟨_,ho,rfl⟩ ⟨_,ho2,rfl⟩ noFill_list_add seq_list_add F.slot_list_add F.entry_list_add (F.args_list_add_2 _ _) (PyProof.Rows.list_addW l b its.toArray its2.toArray n1 n2 none none sl1 sl2 (by rw[OW,OW];omega)) ⟨ho,ho2,?_⟩;have ea:its.toArray++its2.toArray=(its++its2).toArray:=by simp
 rw[ea];exact⟨.ref _,_,I.lnew (t':=s.toks) (r.append r2) (by rw[Pk];omega),rfl,q _ I.fresh⟩
def Jw(K:Q7):R2:=λx y H Q=>∃a b xs ys,x=.ref a/\y=.ref b/\qv K H a xs/\qv K H b ys/\xs.length+ys.length<=Sn/\
 (xs=[]->Q (.ref b) H)/\(xs≠[]->ys=[]->Q (.ref a) H)/\(xs≠[]->ys≠[]->∀p,H p=none->Q (.ref p) (upd H p (.tup (xs++ys))))
def DZ:kA X (SU .Add) (Jw X.K):=by
 intro pins s σ H x y v u Q I rx ry h;obtain⟨a,b,xs,ys,ex,ey,ha,hb,hz,q0,q1,q2⟩:=h;by_cases hx:xs=[]
 ·subst ex ey;cases rx;cases ry;obtain⟨its,r1,p1,_⟩:=I.tuple ha;obtain⟨its2,r2,p2,_⟩:=I.tuple hb;obtain⟨⟨cls,dd,data,sl⟩,ho,hc,n,hd⟩:=id p1;obtain⟨⟨cls2,dd2,data2,sl2⟩,ho2,hc2,n2,hd2⟩:=id p2;simp only at hc hd hc2 hd2;subst hc hd hc2 hd2;have e:its=[]:=r1.nil_iff.mpr hx;exact Tf ⟨_,ho,rfl⟩ ⟨_,ho2,rfl⟩ Tg Th F.slot_tuple_add F.entry_tuple_add (F.args_tuple_add_2 _ _)
   (PyProof.Rows.tuple_addW0 a b its.toArray its2.toArray n n2 dd dd2 sl sl2 (by rw[e];rfl)) ⟨ho,ho2,⟨.ref b,H,I,rfl,q0 hx⟩⟩
 ·exact FJ pins s σ H x y v u Q I rx ry ⟨a,b,xs,ys,ex,ey,ha,hb,hx,hz,q1 hx,q2 hx⟩
def bS(a b:D):Option D:=match a,b with
 |.int i,.int j=>some (.int (i+j))
 |.str x,.str y=>if small (x.length+y.length)then some (.str (x++y))else none
 |.lst xs,.lst ys=>if small (xs.length+ys.length)then some (.lst (xs++ys))else none
 |.tup xs,.tup ys=>if small (xs.length+ys.length)then some (.tup (xs++ys))else none
 |_,_=>none
def aV:kA X (SU .Add) (rD X.K bS):=by
 intro pins s σ H x y u v Q I rx ry ⟨O,a,b,d,hO,ha,hb,hg,q⟩;cases a with
 |int i=>
  cases b with
  |int j=>
   cases hg;exact Im pins s σ H x y u v Q I rx ry ⟨i,j,gG.mp ha,gG.mp hb,q _ H (bT.refl H) (gG.mpr rfl)⟩
  |_=>cases hg
 |str i=>
  cases b with
  |str j=>
   obtain⟨h1,h2⟩:=cq hg;subst h2;exact zy pins s σ H x y u v Q I rx ry ⟨i,j,gJ.mp ha,gJ.mp hb,e7 h1,q _ H (bT.refl H) (gJ.mpr rfl)⟩
  |_=>cases hg
 |lst xs=>
  cases b with
  |lst ys=>
   obtain⟨h1,h2⟩:=cq hg;subst h2;rw[cX]at ha hb;obtain⟨p,vs,ex,g1,g2⟩:=ha;obtain⟨p',vs',ey,g1',g2'⟩:=hb;refine Ge pins s σ H x y u v Q I rx ry ⟨p,p',vs,vs',ex,ey,(aU H O).seq g1,(aU H O).seq g1',?_,λr hr=>?_⟩
   ·rw[<-g2.length,<-g2'.length];exact e7 h1
   ·exact q _ _ (cI hr _) (dY hO hr (g2.append g2'))
  |_=>cases hg
 |tup xs=>
  cases b with
  |tup ys=>
   obtain⟨h1,h2⟩:=cq hg;subst h2;have da:=ha;have db:=hb;rw[cZ]at ha hb;obtain⟨p,vs,ex,g1,g2⟩:=ha;obtain⟨p',vs',ey,g1',g2'⟩:=hb;have l1:=g2.length;have l2:=g2'.length;refine DZ pins s σ H x y u v Q I rx ry ⟨p,p',vs,vs',ex,ey,cE (aU H O) g1,cE (aU H O) g1',?_,λz=>?_,λz z'=>?_,λz z' r hr=>?_⟩
   ·rw[<-l1,<-l2];exact e7 h1
   ·have e:xs=[]:=List.length_eq_zero_iff.mp (by rw[l1,z];rfl);rw[<-ey];refine q _ H (bT.refl H) ?_;rw[e,P5];exact db
   ·have e:ys=[]:=List.length_eq_zero_iff.mp (by rw[l2,z'];rfl);rw[<-ex];refine q _ H (bT.refl H) ?_;rw[e,O5];exact da
   ·exact q _ _ (cI hr _) (gZ hO hr (g2.append g2'))
  |_=>cases hg
 |_=>cases hg
def aD(a b:D):Option D:=match a,b with
 |.tup xs,.int i=>o8 xs i
 |.lst xs,.int i=>o8 xs i
 |.str x,.int i=>if small x.length then(o8 x.cps.toList i).bind λc=>some (.str ⟨#[c]⟩)else none
 |_,_=>none
def Bf{K:Q7}{H:Hp}{ds:List D}{vs:List V}{i:Int}{d:D}(h:bx K H ds vs)(e:o8 ds i=some d):∃v,o8 vs i=some v/\dD K H d v:=by
 unfold o8 at e ⊢;obtain⟨j,e1,e2⟩:=bind_some e;rw[<-h.length,e1];exact h.get e2
def Ms:K1 X (rD X.K aD):=by
 intro value slice pins s σ H x y u v Q I rx ry ⟨O,a,b,d,hO,ha,hb,hg,q⟩ hsub;cases a with
 |tup xs=>
  cases b with
  |int i=>
   rw[cZ]at ha;obtain⟨p,vs,ex,g1,g2⟩:=ha;obtain⟨w,e1,e2⟩:=Bf g2 hg;refine Js value slice pins s σ H x y u v Q I rx ry ?_ hsub;exact⟨p,vs,i,w,ex,gG.mp hb,cE (aU H O) g1,e1,q w H (bT.refl H) e2⟩
  |_=>cases hg
 |lst xs=>
  cases b with
  |int i=>
   rw[cX]at ha;obtain⟨p,vs,ex,g1,g2⟩:=ha;obtain⟨w,e1,e2⟩:=Bf g2 hg;refine GU value slice pins s σ H x y u v Q I rx ry ?_ hsub;exact⟨p,vs,i,w,ex,gG.mp hb,(aU H O).seq g1,e1,q w H (bT.refl H) e2⟩
  |_=>cases hg
 |str z=>
  cases b with
  |int i=>
   have hg':(if small z.length then(o8 z.cps.toList i).bind λc=>some (D.str ⟨#[c]⟩)else none)=some d:=hg;cases hs:small z.length with
   |false=>rw[hs]at hg';cases hg'
   |true=>
    rw[hs]at hg';obtain⟨c,e1,e2⟩:=bind_some hg';cases e2;refine HN value slice pins s σ H x y u v Q I rx ry ?_ hsub;exact⟨z,i,c,gJ.mp ha,gG.mp hb,e7 hs,e1,q _ H (bT.refl H) (gJ.mpr rfl)⟩
  |_=>cases hg
 |_=>cases hg
def N2{a b:Sz}{fa fb:FX}{pos:Pos}(ha:FE X a fa)(hb:FE X b fb)(hs:xr b):FE X (.Subscript a b pos) (f2 aD fa fb):=
 PE.weak (Ko Ms ha hb hs) (xk aw)
def cutD{α:Type}(xs:List α)(lo hi:Option Int):List α:=(xs.drop (HT.sIx xs.length 0 lo)).take (HT.sIx xs.length xs.length hi-HT.sIx xs.length 0 lo)
def vd{M:Model}{A:Sv}{E:Se->Sw->Prop}{s:Sw}{t:Si}{items:Array Se}{Q:Bool->Sw->Prop}(ht:RX s.heap t items)(h:Q true s):Sy M A (Builtin.Tuple.tupleIsExact (.ref t)) Q E s:=by
 unfold Builtin.Tuple.tupleIsExact;refine SK (Tp ht.typeIs ?_);exact SJ h
def jr{prog:Sg}{w:Sf}{A:Sv}{E:Se->Sw->Prop}{s:Sw}{t sl:Si}{items:Array Se}{vl vu:Se}{lo hi:Option Int}{Q:Se->Sw->Prop}(ht:RX s.heap t items)(hs:s.heap.IsSliceOf sl vl vu .none)(pl:Ti vl lo)(pu:Ti vu hi)
  (hw:HT.sIx items.size 0 lo=0/\HT.sIx items.size items.size hi=items.size) (h:Q (.ref t) s):Sy (model prog w) A (getItem (.ref t) (.ref sl)) Q E s:=by
 obtain⟨os,hos,hcs,hds⟩:=id hs;have hTs:s.TypeIs (.ref sl) "slice":=⟨os,hos,hcs⟩
 unfold getItem
 try with_reducible refine Tl ?_
 first|refine SK (SJ ?_)|skip
 refine SK (wpAny_sequenceKey ht.typeIs (by decide) ?_);refine SK (Tn (name:=Str.ofString "__getitem__") ht.typeIs RV
  (To RV ht.typeIs PyProof.Rows.entry_tuple_getitem ?_ (PyProof.Rows.args_tuple_getitem _ _)))
 show Sy _ _ (Builtin.Tuple.tupleItemsOf (.ref t) >>= _) _ _ s;refine SK (PyProof.Rows.tupleItemsOf_ ht ?_);refine SK (Tp hTs ?_);rw[if_pos (by decide)];refine SK (HT.qg hs pl pu ?_);have hyes:(((HT.sIx items.size 0 lo:Nat):Int)==0&&(1:Int)==1&&(HT.sIx items.size items.size hi-HT.sIx items.size 0 lo)==items.size)=true:=by
  rw[hw.1,hw.2];simp
 show Sy _ _ (if(((HT.sIx items.size 0 lo:Nat):Int)==0&&(1:Int)==1&&(HT.sIx items.size items.size hi-HT.sIx items.size 0 lo)==items.size)=true then _ else _) _ _ s;rw[if_pos hyes];refine SK (vd ht ?_);rw[if_pos rfl]
 first
  |exact SK (Tz (SJ ⟨_,rfl,SJ h⟩))
  |exact SK (Tz (SK (SJ (SJ ⟨_,rfl,SJ h⟩))))
def uc(a:D)(lo hi:Option Int):Option D:=match a with
 |.lst xs=>some (.lst (cutD xs lo hi))
 |.tup xs=>some (.tup (cutD xs lo hi))
 |.str x=>if small x.length then some (.str ⟨(cutD x.cps.toList lo hi).toArray⟩)else none
 |_=>none
def HE(v:Option Int)(d n:Nat)(hd:d<=n):(match v with|none=>(d:Int)|some i=>if(1:Int)>0 then max 0 (min (if i<0 then i+(n:Int)else i) (n:Int))else max (-1) (min (if i<0 then i+(n:Int)else i) ((n:Int)-1)))=((HT.sIx n d v:Nat):Int):=by
 cases v with
 |none=>rfl
 |some i=>
  show(if(1:Int)>0 then max 0 (min (if i<0 then i+(n:Int)else i) (n:Int))else max (-1) (min (if i<0 then i+(n:Int)else i) ((n:Int)-1)))=(((if i<0 then(i+(n:Int)).toNat else min i.toNat n):Nat):Int)
  rw[if_pos (by decide)];by_cases h:i<0
  ·rw[if_pos h,if_pos h];omega
  ·rw[if_neg h,if_neg h];omega
def Ep(lo hi:Option Int)(n:Nat):Builtin.Str.strSliceIndices lo hi 1 n=(List.range (HT.sIx n n hi-HT.sIx n 0 lo)).map λk=>HT.sIx n 0 lo+k:=by
 have e1:=HE lo 0 n (O3 _);have e2:=HE hi n n (OT _);have e:Builtin.Str.strSliceIndices lo hi 1 n=sliceRange ((HT.sIx n 0 lo:Nat):Int) ((HT.sIx n n hi:Nat):Int) 1:=by
  rw[<-e1,<-e2];cases lo<;>cases hi<;>rfl
 rw[e];unfold sliceRange;dsimp only;rw[if_pos (by decide:(1:Int)>0)];have e3:(if((HT.sIx n 0 lo:Nat):Int)<((HT.sIx n n hi:Nat):Int)then(((HT.sIx n n hi:Nat):Int)-((HT.sIx n 0 lo:Nat):Int)+1-1)/1 else 0:Int).toNat=HT.sIx n n hi-HT.sIx n 0 lo:=by
  rw[Int.ediv_one];split<;>omega
 rw[e3];refine P6 λk _=>?_;omega
def Ed{α:Type}(l:List α)(a:Nat):∀n:Nat,((List.range n).map λk=>a+k).filterMap (λi=>l[i]?)=(l.drop a).take n
 |0=>by simp
 |n+1=>by
  rw[List.range_succ,P7,List.filterMap_append,Ed l a n,List.take_add_one,List.getElem?_drop];cases e:l[a+n]?<;>simp[e]
def CO(x:Str)(lo hi:Option Int):Txt.slice x lo hi=⟨(cutD x.cps.toList lo hi).toArray⟩:=by
 have hl:x.cps.toList.length=x.length:=by simp[Str.length]
 have pick:(Builtin.Str.strSliceIndices lo hi 1 x.length).filterMap (x.cps[·]?)=cutD x.cps.toList lo hi:=by
  rw[Ep];have q:=Ed x.cps.toList (HT.sIx x.length 0 lo) (HT.sIx x.length x.length hi-HT.sIx x.length 0 lo);unfold cutD;rw[hl,<-q];congr 1;funext i;simp
 unfold Txt.slice;split
 ·rename_i h;have h':(Builtin.Str.strSliceIndices lo hi 1 x.length).length=x.length:=by simpa using h
  rw[Ep,O0,P8]at h';have h1:=HT.Jf x.length x.length (OT _) hi;have z1:HT.sIx x.length 0 lo=0\/x.length=0:=by omega
  have e:cutD x.cps.toList lo hi=x.cps.toList:=by
   unfold cutD;rw[hl,h'];rcases z1 with z1|z1
   ·rw[z1,PN,<-hl,List.take_length]
   ·have:x.cps.toList=[]:=List.length_eq_zero_iff.mp (by rw[hl];exact z1)
    rw[this];simp
  rw[e]
 ·rw[pick]
def M5(K:Q7):V->Option Int->Option Int->Hp->VK->Prop:=λx lo hi H Q=>∃O a d,fT H O/\dD K (hid H O) a x/\uc a lo hi=some d/\∀v H',bT H H'->dD K (hid H' O) d v->Q v H'
def bx.cut{K:Q7}{H:Hp}{ds:List D}{vs:List V}(h:bx K H ds vs)(lo hi:Option Int):bx K H (cutD ds lo hi) (yr vs lo hi):=by
 unfold cutD yr;rw[h.length];exact(h.drop _).take _
def Mo:L7 X (M5 X.K):=by
 intro pins s σ H x v vl vu lo hi sl Q I rx hs pl pu ⟨O,a,d,hO,ha,hg,q⟩;cases a with
 |lst xs=>
  cases hg;rw[cX]at ha;obtain⟨p,vs,ex,g1,g2⟩:=ha;exact FD pins s σ H x v vl vu lo hi sl Q I rx hs pl pu ⟨p,vs,ex,(aU H O).seq g1,λr hr=>q _ _ (cI hr _) (dY hO hr (g2.cut lo hi))⟩
 |tup xs=>
  cases hg;have da:=ha;rw[cZ]at ha;obtain⟨p,vs,ex,g1,g2⟩:=ha;by_cases hw:HT.sIx vs.length 0 lo=0/\HT.sIx vs.length vs.length hi=vs.length
  ·subst ex;cases rx;obtain⟨its,r,ht,hz⟩:=I.tuple (cE (aU H O) g1);have hlen:its.toArray.size=vs.length:=(by rw[OW];exact r.length.symm);refine⟨"tuple",_,PyProof.Rows.slot_tuple_getitem.lookup,ht.typeIs,jr ht hs pl pu (by rw[hlen];exact hw) ⟨.ref p,H,I,rfl,q _ H (bT.refl H) ?_⟩⟩;have e:cutD xs lo hi=xs:=by
    unfold cutD;rw[g2.length,hw.1,hw.2,P9,PN,<-g2.length,List.take_length]
   rw[e];exact da
  ·exact Ii pins s σ H x v vl vu lo hi sl Q I rx hs pl pu ⟨p,vs,ex,cE (aU H O) g1,hw,λr hr=>q _ _ (cI hr _) (gZ hO hr (g2.cut lo hi))⟩
 |str z=>
  obtain⟨h1,h2⟩:=cq hg;subst h2;rw[gJ]at ha;subst ha;obtain⟨t,rfl⟩:=rx;have fin:∀t' tk,EP X pins σ Q (.str (Txt.slice z lo hi) t') {s with toks:=tk}:=λt' tk=>by
   rw[CO];exact⟨.str _,H,I.tok _,⟨_,rfl⟩,q _ H (bT.refl H) (gJ.mpr rfl)⟩
  obtain⟨os,hos,hcs,hds⟩:=id hs;have hz:=e7 h1;refine⟨"str",_,F.slot_str_getitem.lookup,typeIs_str _ _ _,?_⟩;cases pl with
  |none=>
   cases pu with
   |none=>exact TB (l:=none) (u:=none) (st:=none) ⟨os,hos,hcs,hds⟩ rfl (TC ⟨OG (Txt.slice_le z _ _) hz,λt' k=>fin t' k⟩)
   |int j tj=>exact TB (l:=none) (u:=some (j,tj)) (st:=none) ⟨os,hos,hcs,hds⟩ rfl (TC ⟨OG (Txt.slice_le z _ _) hz,λt' k=>fin t' k⟩)
  |int i ti=>
   cases pu with
   |none=>exact TB (l:=some (i,ti)) (u:=none) (st:=none) ⟨os,hos,hcs,hds⟩ rfl (TC ⟨OG (Txt.slice_le z _ _) hz,λt' k=>fin t' k⟩)
   |int j tj=>exact TB (l:=some (i,ti)) (u:=some (j,tj)) (st:=none) ⟨os,hos,hcs,hds⟩ rfl (TC ⟨OG (Txt.slice_le z _ _) hz,λt' k=>fin t' k⟩)
 |_=>cases hg
def bz:ay->R (Option Int):=λ_=>.ok none
def Aa:D->Option (Option Int)
 |.int i=>some (some i)
 |_=>none
def cC(f:FX):ay->R (Option Int):=λρ=>(f ρ).bind λd=>rO (Aa d)
def Ov(X:Cx)(F:ay->R (Option Int)):TO:=λσ H Q=>∃O ρ,fD X.K O H ρ σ/\jJ X σ O H (F ρ) λo=>∀H',bT H H'->Q o H'
def FO(X:Cx)(e:Option Sz)(F:ay->R (Option Int)):Prop:=PO X e (Ov X F)
def Li:FO X none bz:=λpins s σ H Q I ⟨O,ρ,E,q⟩=>Gj pins s σ H Q I (q H (bT.refl H))
def LA{e:Sz}{f:FX}(h:FE X e f):FO X (some e) (cC f):=λpins s σ H Q I ⟨O,ρ,E,hF⟩=>
 Gr h pins s σ H Q I ⟨O,ρ,E,(jJ.bind hF).imp λd hF v H1 s1 d1=>by
  obtain⟨o,e,q⟩:=jJ.rO hF;cases d with
  |int i=>
   cases e;exact⟨i,gG.mp d1,q H1 s1⟩
  |_=>cases e⟩
def bM(f:FX)(l h:ay->R (Option Int)):FX:=λρ=>(f ρ).bind λa=>(l ρ).bind λlo=>(h ρ).bind λhi=>rO (uc a lo hi)
def Kl{e:Sz}{f:FX}{l h:ay->R (Option Int)}{lo hi:Option Sz}{p2 pos:Pos}(he:FE X e f)(hl:FO X lo l)(hh:FO X hi h):FE X (.Subscript e (.Slice lo hi none p2) pos) (bM f l h):=
 PE.weak (EJ Mo he hl hh) λσ H Q ⟨O,ρ,E,hF⟩=>⟨O,ρ,E,(jJ.bind hF).imp λa hF x H1 s1 d1=>⟨O,ρ,E.same s1,((jJ.bind hF).mono s1).imp λlo' hF H2 s2=>⟨O,ρ,E.same (s1.trans s2),((jJ.bind hF).mono (s1.trans s2)).imp λhi' hF H3 s3=>by
  obtain⟨d,e,q⟩:=jJ.rO hF;exact⟨O,a,d,E.all.same ((s1.trans s2).trans s3),d1.mono (cH (s2.trans s3)),e,λv H4 s4 d4=>q v H4 (((s1.trans s2).trans s3).trans s4) d4⟩⟩⟩⟩
end
end TG
namespace TG
open PySem PySem.Spec L2
variable[bh]
def yP(K:Q7)(g:List D->Option D):List V->Hp->VK->Prop:=λxs H Q=>∃O ds d,fT H O/\bx K (hid H O) ds xs/\g ds=some d/\∀v H',bT H H'->dD K (hid H' O) d v->Q v H'
def sW{K:Q7}{g:List D->Option D}:AF K (yP K g) g:=λds d xs O H Q hO hg hd q=>⟨O,ds,d,hO,hd,hg,q⟩
section
variable{X:Cx}{x:Str}{p pos:Pos}{e:Sz}{es:List Sz}{id T:String}{g:List D->Option D}{f:ay->R (List D)}
def J4(hc:eR X (.builtin id) (yP X.K g))(hg:Gl X x)(hm:X.mg x=none)(hv:Su x=some (.builtin id))(ha:FA X (e::es) f)(hn:x≠"__name__":=by decide)(hdb:(x==("__debug__":Str))=false:=by decide)
  (hns:(e::es).all noStar=true:=by rfl):FE X (.Call (.Name x p) (e::es) [] pos) (fL g f):=
 PE.weak (yY hc hg hm hv ha hn hdb (fN (Pn _ _ ▸ hns).1) (jd (Pn _ _ ▸ hns).2)) (DX sW)
def JB(hc:eR X (.type T) (yP X.K g))(hg:Gl X x)(hm:X.mg x=none)(hv:Su x=some (.type T))(ha:FA X (e::es) f)(hn:x≠"__name__":=by decide)(hdb:(x==("__debug__":Str))=false:=by decide)
  (hns:(e::es).all noStar=true:=by rfl):FE X (.Call (.Name x p) (e::es) [] pos) (fL g f):=
 PE.weak (Ck hc hg hm hv ha hn hdb (fN (Pn _ _ ▸ hns).1) (jd (Pn _ _ ▸ hns).2)) (DX sW)
def gD:List D->Option D
 |[.lst xs]=>some (.int xs.length)
 |[.tup xs]=>some (.int xs.length)
 |[.str x]=>if small x.length then some (.int x.length)else none
 |_=>none
def bN:eR X (.builtin "len") (yP X.K gD):=by
 intro pins s σ H xs us Q I r ⟨O,ds,d,hO,hd,hg,q⟩;unfold gD at hg;split at hg
 ·rename_i ys;cases hg;obtain⟨v,ev,h1⟩:=hd.one;rw[cX]at h1;obtain⟨p,vs,ep,g1,g2⟩:=h1;exact pX pins s σ H xs us Q I r ⟨p,vs,by rw[ev,ep],.inl ((aU H O).seq g1),q _ H (bT.refl H) (gG.mpr (by rw[g2.length]))⟩
 ·rename_i ys;cases hg;obtain⟨v,ev,h1⟩:=hd.one;rw[cZ]at h1;obtain⟨p,vs,ep,g1,g2⟩:=h1;exact pX pins s σ H xs us Q I r ⟨p,vs,by rw[ev,ep],.inr (cE (aU H O) g1),q _ H (bT.refl H) (gG.mpr (by rw[g2.length]))⟩
 ·rename_i z;obtain⟨h1,h2⟩:=cq hg;subst h2;obtain⟨v,ev,h1'⟩:=hd.one;exact wQ pins s σ H xs us Q I r ⟨z,by rw[ev,gJ.mp h1'],e7 h1,q _ H (bT.refl H) (gG.mpr rfl)⟩
 ·cases hg
def cu:List D->Option D
 |[.lst xs]=>some (.tup xs)
 |[.tup xs]=>some (.tup xs)
 |_=>none
def bW:eR X (.type "tuple") (yP X.K cu):=by
 intro pins s σ H xs us Q I r ⟨O,ds,d,hO,hd,hg,q⟩;unfold cu at hg;split at hg
 ·rename_i ys;cases hg;obtain⟨v,ev,h1⟩:=hd.one;rw[cX]at h1;obtain⟨p,vs,ep,g1,g2⟩:=h1;exact oJ pins s σ H xs us Q I r ⟨p,vs,by rw[ev,ep],.inl ⟨(aU H O).seq g1,λl hl=>q _ _ (cI hl _) (gZ hO hl g2)⟩⟩
 ·rename_i ys;cases hg;obtain⟨v,ev,h1⟩:=hd.one;have h0:=h1;rw[cZ]at h1;obtain⟨p,vs,ep,g1,g2⟩:=h1;rw[ep]at h0;exact oJ pins s σ H xs us Q I r ⟨p,vs,by rw[ev,ep],.inr ⟨cE (aU H O) g1,q _ H (bT.refl H) h0⟩⟩
 ·cases hg
def vv:List D->Option D
 |[.lst xs]=>some (.lst xs)
 |[.tup xs]=>some (.lst xs)
 |_=>none
def tT:eR X (.type "list") (yP X.K vv):=by
 intro pins s σ H xs us Q I r ⟨O,ds,d,hO,hd,hg,q⟩;unfold vv at hg;split at hg
 ·rename_i ys;cases hg;obtain⟨v,ev,h1⟩:=hd.one;rw[cX]at h1;obtain⟨p,vs,ep,g1,g2⟩:=h1;exact pH pins s σ H xs us Q I r ⟨p,vs,by rw[ev,ep],.inl ((aU H O).seq g1),λl hl=>q _ _ (cI hl _) (dY hO hl g2)⟩
 ·rename_i ys;cases hg;obtain⟨v,ev,h1⟩:=hd.one;rw[cZ]at h1;obtain⟨p,vs,ep,g1,g2⟩:=h1;exact pH pins s σ H xs us Q I r ⟨p,vs,by rw[ev,ep],.inr (cE (aU H O) g1),λl hl=>q _ _ (cI hl _) (dY hO hl g2)⟩
 ·cases hg
def pB:List D->Option D
 |[.int i,.int j]=>some (.int (if j>i then j else i))
 |_=>none
def oS:List D->Option D
 |[.int i,.int j]=>some (.int (if j<i then j else i))
 |_=>none
def A9:List D->Option D
 |[.int i]=>some (.int i)
 |[.bl k]=>some (.int (if k then 1 else 0))
 |_=>none
def mz(hc:X.calm=true):eR X (.builtin "max") (yP X.K pB):=by
 intro pins s σ H xs us Q I r ⟨O,ds,d,hO,hd,hg,q⟩;unfold pB at hg;split at hg
 ·rename_i i j;cases hg;obtain⟨v,w,ev,h1,h2⟩:=hd.two;exact BU hc pins s σ H xs us Q I r ⟨i,j,by rw[ev,gG.mp h1,gG.mp h2],q _ H (bT.refl H) (gG.mpr rfl)⟩
 ·cases hg
def mj(hc:X.calm=true):eR X (.builtin "min") (yP X.K oS):=by
 intro pins s σ H xs us Q I r ⟨O,ds,d,hO,hd,hg,q⟩;unfold oS at hg;split at hg
 ·rename_i i j;cases hg;obtain⟨v,w,ev,h1,h2⟩:=hd.two;exact Cr hc pins s σ H xs us Q I r ⟨i,j,by rw[ev,gG.mp h1,gG.mp h2],q _ H (bT.refl H) (gG.mpr rfl)⟩
 ·cases hg
def Ab:eR X (.type "int") (yP X.K A9):=by
 intro pins s σ H xs us Q I r ⟨O,ds,d,hO,hd,hg,q⟩;unfold A9 at hg;split at hg
 ·rename_i i;cases hg;obtain⟨v,ev,h1⟩:=hd.one;exact vP pins s σ H xs us Q I r (.inl ⟨i,by rw[ev,gG.mp h1],q _ H (bT.refl H) (gG.mpr rfl)⟩)
 ·rename_i k;cases hg;obtain⟨v,ev,h1⟩:=hd.one;exact vP pins s σ H xs us Q I r (.inr ⟨k,by rw[ev,lM.mp h1],q _ H (bT.refl H) (gG.mpr rfl)⟩)
 ·cases hg
def Io:D->String
 |.non=>"NoneType"
 |.bl _=>"bool"
 |.int _=>"int"
 |.str _=>"str"
 |.tup _=>"tuple"
 |.lst _=>"list"
 |.dct _ _=>"dict"
 |_=>""
def Gi(T:String)(d:D):Bool:=match d with
 |.bl _=>T=="bool"||T=="int"
 |.non=>T=="NoneType"
 |.int _=>T=="int"
 |.str _=>T=="str"
 |.tup _=>T=="tuple"
 |.lst _=>T=="list"
 |.dct _ _=>T=="dict"
 |_=>false
def yp(K:Q7)(T:String):Prop:=∀d:D,top d=true->Rx K (.type (Io d)) (.type T)=some (Gi T d)
def Nj(K:Q7)(T:String):List V->Hp->VK->Prop:=λxs H Q=>∃O x d,xs=[x,.ty T]/\top d=true/\dD K (hid H O) d x/\Q (.bl (Gi T d)) H
def EA(ok:yp X.K T):eR X (.builtin "isinstance") (Nj X.K T):=by
 intro pins s σ H xs us Q I r ⟨O,x,d,ex,td,hd,q⟩;subst ex;obtain⟨u,w',rfl,rx,rt⟩:=vals2 r;cases rt;have e:=ok d td;have fin:∀tk,EP X pins σ Q (.bool (Gi T d)) {s with toks:=tk}:=λtk=>⟨.bl _,H,I.tok _,rfl,q⟩
 cases gR I td (hd.mono (aU H O)) rx with
 |non=>exact Ry PySem.W.kitx_none I.kIn True.intro e (λz=>nomatch z) fin
 |bl b=>exact Ry PySem.W.kitx_bool I.kIn True.intro e (λz=>nomatch z) fin
 |int i t=>exact Ry PySem.W.kitx_int I.kIn True.intro e (λz=>nomatch z) fin
 |str y t=>exact Ry PySem.W.kitx_str I.kIn True.intro e (λz=>nomatch z) fin
 |tup h rv t=>
  obtain⟨o,h1,h2,_⟩:=t;exact Ry PySem.W.kitx_tuple I.kIn ⟨o,h1,h2⟩ e (λz=>nomatch z) fin
 |lst h rv t=>
  obtain⟨o,h1,h2,_⟩:=t;exact Ry PySem.W.kitx_list I.kIn ⟨o,h1,h2⟩ e (λz=>nomatch z) fin
def DC:Su "isinstance"=some (.builtin "isinstance"):=by first|rfl|decide +kernel
def mM(T:String)(d:D):Option D:=if top d then some (.bl (Gi T d))else none
def nh(T:String)(f:FX):FX:=f1 (mM T) f
def NQ{f:FX}{xT:Str}{p2:Pos}(ok:yp X.K T)(hg:Gl X "isinstance")(hm:X.mg "isinstance"=none)(hgT:Gl X xT)(hmT:X.mg xT=none)(hvT:Su xT=some (.type T))(he:FE X e f)
  (hn2:xT≠"__name__":=by decide) (hd2:(xT==("__debug__":Str))=false:=by decide)
  (hns:noStar e=true:=by rfl):
  FE X (.Call (.Name "isinstance" p) [e,.Name xT p2] [] pos) (nh T f):=
 PE.weak (yY (EA ok) hg hm DC (pj he (pj (GK (v:=.ty T) hgT hmT hvT rfl hn2 hd2) wq (fN rfl)) (fN hns)) (by decide) (by decide) (fN hns) (jd rfl)) λσ H Q ⟨O,ρ,E,hF⟩=>⟨O,ρ,E,(jJ.bind hF).imp λa hF v H1 s1 d1=>by
  obtain⟨d,e,q⟩:=jJ.rO hF;obtain⟨h1,h2⟩:=cq e;subst h2;exact⟨O,v,a,rfl,h1,d1,q _ H1 s1 (lM.mpr rfl)⟩⟩
end
section
variable{X:Cx}{a:Sz}{f:FX}{pos:Pos}
def isNon:D->Bool
 |.non=>true
 |_=>false
def MH(d:D):Option D:=some (.bl (isNon d))
def Kt(d:D):Option D:=some (.bl (!isNon d))
def M0(f:FX):FX:=f1 MH f
def JM(f:FX):FX:=f1 Kt f
def Kx(h:FE X a f)(he:∀whole,isTrue a X.env whole=(do let v<-whole;standAt a.pos;holding [v] (truthy v)):=by intro _;rfl):FT X a (iL f):=PT.weak (Ea h he) λσ H Q ⟨O,ρ,E,hF⟩=>⟨O,ρ,E,(jJ.bind hF).imp λd hF x H1 s1 d1=>by
 obtain⟨r,hF,q⟩:=jJ.rO hF;refine⟨r,?_,q H1 s1⟩;cases d with
 |non=>cases hF;rw[md.mp d1];rfl
 |bl b=>cases hF;rw[lM.mp d1];rfl
 |int i=>cases hF;rw[gG.mp d1];rfl
 |str y=>
  obtain⟨hz,e⟩:=cq hF;subst e;rw[gJ.mp d1];refine⟨e7 hz,?_⟩;show(y.length !=0)=((y.length:Int) !=0)
  cases y.length<;>rfl
 |tup xs=>
  cases hF;obtain⟨p,vs,e,g1,g2⟩:=cZ.mp d1;rw[e];refine .inr (.inl ⟨vs,cE (aU H1 O) g1,?_⟩);have l:=g2.length;cases xs<;>cases vs<;>first|rfl|(simp at l)
 |lst xs=>
  cases hF;obtain⟨p,vs,e,g1,g2⟩:=cX.mp d1;rw[e];refine .inl ⟨vs,(aU H1 O).seq g1,?_⟩;have l:=g2.length;cases xs<;>cases vs<;>first|rfl|(simp at l)
 |_=>cases hF⟩
end
def Walk(K:Q7)(Hd:Hp)(J:It)(ds:List D):Prop:=
 ∀(Hn:Hp)(O':List Si)(i:Nat),fT Hn O'->bT Hd (hid Hn O')->(∀d,ds[i]?=some d->J.go i Hn/\∀x H2,J.yld i Hn x H2->bT Hn H2/\dD K (hid H2 O') d x)/\(i=ds.length->J.stop i Hn)
def Mv(X:Cx)(G:ay->R (List D)):TI:=λσ H RR=>∃O ρ,fD X.K O H ρ σ/\jJ X σ O H (G ρ) λds=>∀J H1,bT H H1->Walk X.K (hid H1 O) J ds->RR J H1
def FI(X:Cx)(tg iter:Sz)(G:ay->R (List D)):Prop:=PI X tg iter (Mv X G)
def sN:D->Option (List D)
 |.lst xs=>some xs
 |.tup xs=>some xs
 |_=>none
def bi(f:FX):ay->R (List D):=λρ=>(f ρ).bind λd=>rO (sN d)
section
variable{X:Cx}{tg:Sz}
def BZ{K:Q7}{Hd:Hp}{a:Si}{ds:List D}{vs:List V}(h:o9 K Hd a vs)(g:bx K Hd ds vs):Walk K Hd (Mx K a) ds:=λHn O' i hO s=>
  have s':bT Hd Hn:=s.trans (aU Hn O')
  ⟨fun d e=>by
    obtain⟨v,ev,dv⟩:=g.get e;refine⟨⟨vs,v,s'.seq h,ev⟩,λx H2 ⟨e2,y⟩=>?_⟩;have q:=y vs (s'.seq h);rw[ev]at q;cases q;subst e2;exact⟨bT.refl _,dv.mono s⟩,
   λhl=>⟨vs,s'.seq h,by rw[<-g.length];exact O1 hl.symm⟩⟩
def EX{K:Q7}{Hd:Hp}{a:Si}{ds:List D}{vs:List V}(h:Hd a=some (.tup vs))(g:bx K Hd ds vs):Walk K Hd (MG K a) ds:=λHn O' i hO s=>
  have s':bT Hd Hn:=s.trans (aU Hn O')
  ⟨fun d e=>by
    obtain⟨v,ev,dv⟩:=g.get e;refine⟨⟨vs,v,cE s' h,ev⟩,λx H2 ⟨e2,y⟩=>?_⟩;have q:=y vs (cE s' h);rw[ev]at q;cases q;subst e2;exact⟨bT.refl _,dv.mono s⟩,
   λhl=>⟨vs,cE s' h,by rw[<-g.length];exact O1 hl.symm⟩⟩
def ML{e:Sz}{f:FX}(h:FE X e f):FI X tg e (bi f):=by
 intro pins s σ H R I ⟨O,ρ,E,hG⟩;have hG':=jJ.bind hG;cases hf:f ρ with
 |error z=>exact Bp h pins s σ H R I ⟨O,ρ,E,by rw[hf]at hG' ⊢;cases z with|none=>exact hG'.elim|some x=>exact hG'⟩
 |ok d=>
  rw[hf]at hG';obtain⟨ds,e1,q⟩:=jJ.rO (α:=List D) (o:=sN d) hG';cases d with
  |lst xs=>
   cases e1;refine Bp h pins s σ H R I ⟨O,ρ,E,?_⟩;rw[hf];refine λv H1 s1 d1=>?_;obtain⟨p,vs,ev,g1,g2⟩:=cX.mp d1;exact⟨p,ev,⟨vs,(aU H1 O).seq g1⟩,q _ H1 s1 (BZ g1 g2)⟩
  |tup xs=>
   cases e1;refine IY h pins s σ H R I ⟨O,ρ,E,?_⟩;rw[hf];refine λv H1 s1 d1=>?_;obtain⟨p,vs,ev,g1,g2⟩:=cZ.mp d1;exact⟨p,ev,⟨vs,cE (aU H1 O) g1⟩,q _ H1 s1 (EX g1 g2)⟩
  |_=>cases e1
def gS(lo:Int)(n:Nat):List D:=(List.range n).map λ(k:Nat)=>D.int (lo+(k:Int))
def uV(lo:Int)(n:Nat):(gS lo n).length=n:=by unfold gS;rw[O0,P8]
def ut{K:Q7}{Hd:Hp}(lo:Int)(n:Nat):Walk K Hd (Kz lo n) (gS lo n):=λHn O' i hO s=>
  ⟨fun d e=>by
    unfold gS at e;rw[Ph]at e;cases hi:(List.range n)[i]? with
    |none=>rw[hi]at e;cases e
    |some k=>
      rw[hi]at e;cases e;have hlt:i<n:=by
        have:=(List.getElem?_eq_some_iff.mp hi).1
        rwa [P8]at this
      have ek:k=i:=by
        rw[Qa hlt]at hi;exact(Option.some.inj hi).symm
      subst ek;exact⟨hlt,λx H2 ⟨e1,e2⟩=>by subst e1;exact⟨bT.refl _,gG.mpr e2⟩⟩,
   λhl=>by rw[uV]at hl;exact O1 hl.symm⟩
def okR(j:Int):Bool:=decide (-(2^62)<=j/\j<2^62)
def om:List D->Option (List D)
 |[.int j]=>if okR j then some (gS 0 j.toNat)else none
 |_=>none
def sG:List D->Option (List D)
 |[.int i,.int j]=>if okR i&&okR j then some (gS i (j-i).toNat)else none
 |_=>none
def iB(f:ay->R (List D)):ay->R (List D):=λρ=>(f ρ).bind λds=>rO (om ds)
def sf(f:ay->R (List D)):ay->R (List D):=λρ=>(f ρ).bind λds=>rO (sG ds)
def JA{a:Sz}{f:ay->R (List D)}{p pos:Pos}(hg:Gl X "range")(hm:X.mg "range"=none)(ha:FA X [a] f)(hs:SA [a] X.env=[(false,eval a X.env)]:=by rfl):FI X tg (.Call (.Name "range" p) [a] [] pos) (iB f):=by
 intro pins s σ H R I ⟨O,ρ,E,hG⟩;refine BL hg hm ha hs pins s σ H R I ⟨O,ρ,E,(jJ.bind hG).imp λes hG' vs H1 s1 d1=>?_⟩;clear hG;obtain⟨ds,hG,q⟩:=jJ.rO hG';clear hG';unfold om at hG;split at hG
 ·rename_i j;obtain⟨h1,h2⟩:=cq hG;subst h2;obtain⟨j1,j2⟩:=of_decide_eq_true h1;obtain⟨v,ev,dv⟩:=d1.one;exact⟨j,by rw[ev,gG.mp dv],j1,j2,q _ H1 s1 (ut 0 _)⟩
 ·cases hG
def JE{a b:Sz}{f:ay->R (List D)}{p pos:Pos}(hg:Gl X "range")(hm:X.mg "range"=none)(ha:FA X [a,b] f)(hs:SA [a,b] X.env=[(false,eval a X.env),(false,eval b X.env)]:=by rfl)(hs2:SA [b] X.env=[(false,eval b X.env)]:=by rfl):FI X tg (.Call (.Name "range" p) [a,b] [] pos) (sf f):=by
 intro pins s σ H R I ⟨O,ρ,E,hG⟩;refine B7 hg hm ha hs hs2 pins s σ H R I ⟨O,ρ,E,(jJ.bind hG).imp λes hG' vs H1 s1 d1=>?_⟩;clear hG;obtain⟨ds,hG,q⟩:=jJ.rO hG';clear hG';unfold sG at hG;split at hG
 ·rename_i i j;obtain⟨h1,h2⟩:=cq hG;subst h2;rw[Pn]at h1;obtain⟨i1,i2⟩:=of_decide_eq_true h1.1;obtain⟨j1,j2⟩:=of_decide_eq_true h1.2;obtain⟨v,w,ev,dv,dw⟩:=d1.two;exact⟨i,j,by rw[ev,gG.mp dv,gG.mp dw],⟨i1,i2,j1,j2⟩,q _ H1 s1 (ut i _)⟩
 ·cases hG
end
abbrev GF:=D->ay->Option ay
def LU(K:Q7)(g:GF):TG:=λv σ H Q=>∃O ρ d ρ',fD K O H ρ σ/\dD K (hid H O) d v/\g d ρ=some ρ'/\∀σ',fD K O H ρ' σ'->(∀(i:Nat) x,ρ'[i]?=some (some x)->(∀d,x≠.val d)->σ'[i]?=σ[i]?/\ρ[i]?=some (some x))->Q σ' H
def FG(X:Cx)(tg:Sz)(g:GF):Prop:=PG X tg (LU X.K g)
def setV(i:Nat)(d:D)(ρ:ay):ay:=ρ.set i (some (.val d))
def bZ{α:Type}{l:List α}{i j:Nat}{a b:α}(h:(l.set i a)[j]?=some b):(j=i/\b=a)\/(j≠i/\l[j]?=some b):=by
 by_cases e:j=i
 ·subst e;left;have hj:j<(l.set j a).length:=(List.getElem?_eq_some_iff.mp h).1;rw[List.length_set]at hj;rw[OO hj]at h;exact⟨rfl,(Option.some.inj h).symm⟩
 ·right;rw[OQ (Ne.symm e)]at h;exact⟨e,h⟩
def fD.setV{K:Q7}{O:List Si}{H:Hp}{ρ:ay}{σ:St}(E:fD K O H ρ σ){i:Nat}{d:D}{v:V}(hi:i<σ.length)(hd:dD K (hid H O) d v):fD K O H (setV i d ρ) (σ.set i (some v)):=
  ⟨fun j d' e=>by
    rcases bZ e with⟨hj,eq⟩|⟨ne,eq⟩
    ·cases eq;rw[hj];exact⟨v,OO hi,hd⟩
    · obtain⟨w,e1,e2⟩:=E.val j d' eq
      exact⟨w,by rw[OQ (Ne.symm ne)];exact e1,e2⟩,
   λj xs e=>by
    rcases bZ e with⟨_,eq⟩|⟨ne,eq⟩
    ·cases eq
    · obtain⟨a,e1,e2⟩:=E.own j xs eq
      exact⟨a,by rw[OQ (Ne.symm ne)];exact e1,e2⟩,
   λj k xs ys a e1 e2 e3 e4=>by
    rcases bZ e1 with⟨_,q1⟩|⟨ne1,q1⟩
    ·cases q1
    · rcases bZ e2 with⟨_,q2⟩|⟨ne2,q2⟩
      ·cases q2
      · rw[OQ (Ne.symm ne1)]at e3
        rw[OQ (Ne.symm ne2)]at e4;exact E.one j k xs ys a q1 q2 e3 e4,E.all⟩
section
variable{X:Cx}{pos:Pos}
def gN(i:Nat):GF:=λd ρ=>some (setV i d ρ)
def Ly{i:Nat}{x:Str}(hN:X.N.Nodup)(hi:X.N[i]?=some x)(hx:Loc X.env.scope x)(hf:X.fn x=true\/X.env.scope.names.lookup x=some .local:=by first|exact .inl rfl|exact .inr rfl|assumption):FG X (.Name x pos) (gN i):=by
 intro pins s σ H v u Q I r ⟨O,ρ,d,ρ',E,hd,hg,q⟩;cases hg;have hiσ:i<σ.length:=by rw[I.len];exact(List.getElem?_eq_some_iff.mp hi).1
 refine FH hN hi hx hf pins s σ H v u Q I r (q _ (E.setV hiσ hd) λj x e nv=>?_);rcases bZ e with⟨_,eq⟩|⟨ne,eq⟩
 ·cases eq;exact absurd rfl (nv _)
 ·exact⟨OQ (Ne.symm ne),eq⟩
abbrev C4:=List D->ay->Option ay
def M7(K:Q7)(g:C4):HG:=λvs σ H Q=>∃O ρ ds ρ',fD K O H ρ σ/\bx K (hid H O) ds vs/\g ds ρ=some ρ'/\∀σ',fD K O H ρ' σ'->(∀(i:Nat) x,ρ'[i]?=some (some x)->(∀d,x≠.val d)->σ'[i]?=σ[i]?/\ρ[i]?=some (some x))->Q σ' H
def JO(X:Cx)(ts:List Sz)(g:C4):Prop:=JR X ts (M7 X.K g)
def ED:C4:=λds ρ=>match ds with
 |[]=>some ρ
 |_=>none
def zG(g:GF)(h:C4):C4:=λds ρ=>match ds with
 |d::r=>(g d ρ).bind λρ1=>h r ρ1
 |_=>none
def L4:JO X [] ED:=by
 intro pins s σ H vs us Q I r ⟨O,ρ,ds,ρ',E,hd,hg,q⟩;cases ds with
 |nil=>
  cases hg;rw[dA]at hd;exact GZ pins s σ H vs us Q I r ⟨hd,q _ E λi x e _=>⟨rfl,e⟩⟩
 |cons _ _=>cases hg
def K6{e:Sz}{es:List Sz}{g:GF}{h:C4}(h1:FG X e g)(h2:JO X es h)(hs:(assignEach (e::es) X.env).map (·.2)=assign e X.env::(assignEach es X.env).map (·.2):=by rfl):JO X (e::es) (zG g h):=by
 intro pins s σ H vs us Q I r ⟨O,ρ,ds,ρ',E,hd,hg,q⟩;cases ds with
 |nil=>cases hg
 |cons d ds=>
  obtain⟨ρ1,e1,e2⟩:=bind_some hg;rw[bP]at hd;obtain⟨v,vr,ev,d1,d2⟩:=hd;exact Du h1 h2 hs pins s σ H vs us Q I r ⟨v,vr,ev,O,ρ,d,ρ1,E,d1,e1,λσ1 E1 k1=>⟨O,ρ1,ds,ρ',E1,d2,e2,λσ2 E2 k2=>q σ2 E2 λi x e nv=>by
   obtain⟨a1,a2⟩:=k2 i x e nv;obtain⟨b1,b2⟩:=k1 i x a2 nv;exact⟨a1.trans b1,b2⟩⟩⟩
def gT(n:Nat)(g:C4):GF:=λd ρ=>match d with
 |.tup xs=>if xs.length=n then g xs ρ else none
 |_=>none
def MP{es:List Sz}{k:Nat}{g:C4}{n:Nat}(hc:X.calm=true)(h:JO X es g)(hn:(assignEach es X.env).length=n:=by rfl)(hst:(assignEach es X.env).findIdx? (·.1)=none:=by rfl):FG X (.Tuple es k pos) (gT n g):=by
 intro pins s σ H v u Q I r ⟨O,ρ,d,ρ',E,hd,hg,q⟩;cases d with
 |tup xs=>
  obtain⟨p,vs,ev,g1,g2⟩:=cZ.mp hd;have hg':(if xs.length=n then g xs ρ else none)=some ρ':=hg;by_cases hl:xs.length=n
  ·rw[if_pos hl]at hg';exact Iq hc h hn hst pins s σ H v u Q I r ⟨p,vs,ev,cE (aU H O) g1,by rw[<-g2.length];exact hl,O,ρ,xs,ρ',E,g2,hg',q⟩
  ·rw[if_neg hl]at hg';cases hg'
 |_=>cases hg
end
def FV{α:Type}(r:R α):R α:=match r with
 |.ok a=>.ok a
 |.error _=>un
def Dh{α:Type}{r:R α}{a:α}(h:FV r=.ok a):r=.ok a:=by
 cases r with
 |ok b=>exact h
 |error z=>cases h
def inB(ix:List (Option Nat))(ρ:ay):ay:=ix.map λo=>match o with
 |some i=>match ρ[i]? with
  |some (some (.val d))=>some (.val d)
  |_=>none
 |none=>none
def CY(ρ:ay)(g:GF)(C:ay->R Bool)(Fe:FX):List D->R (List D)
 |[]=>.ok []
 |d::ds=>(rO (g d ρ)).bind λρ1=>(FV (C ρ1)).bind λc=>if c then(FV (Fe ρ1)).bind λv=>(CY ρ g C Fe ds).bind λr=>.ok (v::r)else CY ρ g C Fe ds
theorem pQ(ρ:ay)(g:GF)(C:ay->R Bool)(Fe:FX)(d:D)(ds:List D):CY ρ g C Fe (d::ds)=(rO (g d ρ)).bind λρ1=>(FV (C ρ1)).bind λc=>if c then(FV (Fe ρ1)).bind λv=>(CY ρ g C Fe ds).bind λr=>.ok (v::r)else CY ρ g C Fe ds:=rfl
def gz(ix:List (Option Nat))(G:ay->R (List D))(g:GF)(C:ay->R Bool)(Fe:FX):FX:=λρ=>(G ρ).bind λds=>if small ds.length then FV ((CY (inB ix ρ) g C Fe ds).bind λr=>.ok (.lst r))else un
def L8(X:Cx)(ifs:List Sz)(F:ay->R Bool):Prop:=IT X ifs (L3 X F)
def cF:ay->R Bool:=λ_=>.ok true
def Ls{X:Cx}:L8 X [] cF:=λpins s σ H Q I ⟨O,ρ,E,q⟩=>Gb pins s σ H Q I (q H (bT.refl H))
def Lr{X:Cx}{c:Sz}{F:ay->R Bool}(h:FT X c F):L8 X [c] F:=G2 h
def pC{ix:List (Option Nat)}{ρ:ay}{j:Nat}{x:S}(e:(inB ix ρ)[j]?=some (some x)):∃i d,ix[j]?=some (some i)/\ρ[i]?=some (some (.val d))/\x=.val d:=by
 unfold inB at e;rw[Ph]at e;cases q:ix[j]? with
 |none=>rw[q]at e;cases e
 |some o=>
  rw[q]at e;cases o with
  |none=>cases e
  |some i=>
   have e':(match ρ[i]? with|some (some (.val d))=>some (S.val d)|_=>none)=some x:=Option.some.inj e;split at e'
   ·rename_i d hd;cases e';exact⟨i,d,rfl,hd,rfl⟩
   ·cases e'
def FR{K:Q7}{O:List Si}{H:Hp}{ρ:ay}{σ:St}(ix:List (Option Nat))(E:fD K O H ρ σ):fD K O H (inB ix ρ) (inBlock ix σ):=by
 refine⟨λj d e=>?_,λj xs e=>?_,λj k xs ys a e=>?_,E.all⟩
 ·obtain⟨i,d',q1,q2,q3⟩:=pC e;cases q3;obtain⟨v,e1,e2⟩:=E.val i d q2;refine⟨v,?_,e2⟩;unfold inBlock;rw[Ph,q1];show some ((σ[i]?).getD none)=some (some v);rw[e1];rfl
 ·obtain⟨_,_,_,_,q3⟩:=pC e;cases q3
 ·obtain⟨_,_,_,_,q3⟩:=pC e;cases q3
def xZ{H:Hp}{O:List Si}{p:Si}{o:HO}(hp:H p=none):bT (hid H O) (hid (upd H p o) (p::O)):=λb u h=>by
 unfold hid at h ⊢;by_cases hb:b∈O
 ·rw[if_pos hb]at h;cases h
 ·rw[if_neg hb]at h;have ne:=bH h hp;rw[if_neg (by intro z;rcases List.mem_cons.mp z with z|z;exact ne z;exact hb z),bp ne];exact h
def fD.hideNew{K:Q7}{O:List Si}{H:Hp}{ρ:ay}{σ:St}{p:Si}{o:HO}(m:xx o)(E:fD K O H ρ σ)(hp:H p=none):fD K (p::O) (upd H p o) ρ σ:=by
 have s:bT (hid H O) (hid (upd H p o) (p::O)):=xZ hp;refine⟨λi d e=>let ⟨v,a,b⟩:=E.val i d e;⟨v,a,b.mono s⟩,λi xs e=>?_,E.one,(E.all.same (cI hp o)).cons bI m⟩;obtain⟨a,e1,e2,e3⟩:=E.own i xs e;obtain⟨u,hu⟩:=e3.some;exact⟨a,e1,OL _ e2,e3.mono (by rw[bp (bH hu hp)]) s⟩
def fD.rewrite{K:Q7}{O:List Si}{H:Hp}{ρ:ay}{σ:St}{p:Si}{o:HO}(m:xx o)(E:fD K O H ρ σ)(hp:p∈O)(hs:∀(i:Nat) xs,ρ[i]?=some (some (.own xs))->σ[i]?≠some (some (.ref p))):fD K O (upd H p o) ρ σ:=by
 have s:bT (hid H O) (hid (upd H p o) O):=nN hp;refine⟨λi d e=>let ⟨v,a,b⟩:=E.val i d e;⟨v,a,b.mono s⟩,λi xs e=>?_,E.one,E.all.upd hp m⟩;obtain⟨a,e1,e2,e3⟩:=E.own i xs e;have ne:a≠p:=λz=>hs i xs e (by rw[<-z];exact e1);exact⟨a,e1,e2,e3.mono (by rw[bp ne]) s⟩
def fD.forget{K:Q7}{O:List Si}{H:Hp}{ρ ρ':ay}{σ:St}(E:fD K O H ρ σ)(h:∀(i:Nat) x,ρ'[i]?=some (some x)->ρ[i]?=some (some x)):fD K O H ρ' σ:=
 ⟨λi d e=>E.val i d (h i _ e),λi xs e=>E.own i xs (h i _ e),λi j xs ys a e1 e2=>E.one i j xs ys a (h i _ e1) (h j _ e2),E.all⟩
def Fills(ρ:ay)(g:GF):Prop:=∀d ρ1,g d ρ=some ρ1->∀(i:Nat) x,ρ[i]?=some (some x)->ρ1[i]?=some (some x)
def vn(ix:List (Option Nat))(ρ:ay):∀(i:Nat) xs,(inB ix ρ)[i]?≠some (some (.own xs)):=by
 intro j xs e;obtain⟨_,_,_,_,q3⟩:=pC e;cases q3
def KJ{α:Type}{o:Option α}{a:α}(h:rO o=.ok a):o=some a:=by
 cases o with
 |none=>cases h
 |some b=>cases h;rfl
end TG
namespace TG
open PySem PySem.Spec L2
variable[bh]
section
variable{X:Cx}{elt tg iter:Sz}{ifs:List Sz}{scope:Sx}{pos:Pos}{N:List Str}{ix:List (Option Nat)}{G:ay->R (List D)}{g:GF}{C:ay->R Bool}{Fe:FX}
structure rT(ix:List (Option Nat))(g:GF):Prop where
 fill:∀ρ,Fills (inB ix ρ) g
 own:∀ρ d ρ1,g d (inB ix ρ)=some ρ1->∀(i:Nat) xs,ρ1[i]?≠some (some (.own xs))
def zk{ρ:ay}{i:Nat}(h:ix[i]?=some none):∀x,(inB ix ρ)[i]?≠some (some x):=λx e=>by
 obtain⟨_,_,q,_⟩:=pC e;rw[h]at q;cases q
def bE{i:Nat}(h:ix[i]?=some none):rT ix (gN i):=
  ⟨fun ρ d ρ1 e j x q=>by
    cases e;by_cases z:j=i
    ·subst z;exact absurd q (zk h x)
    ·unfold setV;rw[OQ (Ne.symm z)];exact q,
   λρ d ρ1 e j xs q=>by
    cases e;rcases bZ q with⟨_,z⟩|⟨_,z⟩
    ·cases z
    ·exact vn ix ρ j xs z⟩
def GI(ix:List (Option Nat))(is:List Nat):Bool:=is.all λi=>match ix[i]? with
 |some none=>true
 |_=>false
def kI:List Nat->C4
 |[]=>ED
 |i::is=>zG (gN i) (kI is)
def Bc:∀(is:List Nat)(ds:List D)(ρ ρ1:ay),kI is ds ρ=some ρ1->∀(k:Nat)(x:S),ρ1[k]?=some (some x)->(k∈is/\∃d,x=.val d)\/ρ[k]?=some (some x)
 |[],ds,ρ,ρ1,h,k,x,e=>by
  cases ds with
  |nil=>cases h;exact .inr e
  |cons _ _=>cases h
 |i::is,ds,ρ,ρ1,h,k,x,e=>by
  cases ds with
  |nil=>cases h
  |cons d ds=>
   rcases Bc is ds (setV i d ρ) ρ1 h k x e with⟨a,b⟩|q
   ·exact .inl ⟨OL _ a,b⟩
   ·rcases bZ q with⟨z,w⟩|⟨_,w⟩
    ·exact .inl ⟨by rw[z];exact OJ,d,Option.some.inj w⟩
    ·exact .inr w
def yq:∀(is:List Nat)(ds:List D)(ρ ρ1:ay),kI is ds ρ=some ρ1->∀(k:Nat)(x:S),k∉is->ρ[k]?=some (some x)->ρ1[k]?=some (some x)
 |[],ds,ρ,ρ1,h,k,x,_,e=>by
  cases ds with
  |nil=>cases h;exact e
  |cons _ _=>cases h
 |i::is,ds,ρ,ρ1,h,k,x,n,e=>by
  cases ds with
  |nil=>cases h
  |cons d ds=>
   refine yq is ds (setV i d ρ) ρ1 h k x (λz=>n (OL _ z)) ?_;unfold setV;rw[OQ (λz=>n (by rw[z];exact OJ))];exact e
def eX{is:List Nat}{n:Nat}(h:GI ix is=true):rT ix (gT n (kI is)):=by
 have hn:∀i∈is,ix[i]?=some none:=λi hi=>by
  have:=List.all_eq_true.mp h i hi
  cases e:ix[i]? with
  |none=>rw[e]at this;cases this
  |some o=>cases o with
   |none=>rfl
   |some _=>rw[e]at this;cases this
 have shape:∀ρ d ρ1,gT n (kI is) d ρ=some ρ1->∃ds,kI is ds ρ=some ρ1:=λρ d ρ1 e=>by
  cases d with
  |tup xs=>
   have e':(if xs.length=n then kI is xs ρ else none)=some ρ1:=e;by_cases hl:xs.length=n
   ·rw[if_pos hl]at e';exact⟨xs,e'⟩
   ·rw[if_neg hl]at e';cases e'
  |_=>cases e
 refine⟨λρ d ρ1 e k x q=>?_,λρ d ρ1 e k xs q=>?_⟩
 ·obtain⟨ds,e⟩:=shape _ d ρ1 e;exact yq is ds _ ρ1 e k x (λz=>zk (hn k z) x q) q
 ·obtain⟨ds,e⟩:=shape _ d ρ1 e;rcases Bc is ds _ ρ1 e k _ q with⟨_,d,z⟩|z
  ·cases z
  ·exact vn ix ρ k xs z
structure jt(X:Cx)(scope:Sx)(N:List Str)(ix:List (Option Nat)):Prop where
 cell:∀y∈scope.names,y.2≠.cell
 kind:scope.kind=.function
 names:∀y∈scope.names,y.2=.local->scope.names.lookup y.1=some .local
 free:∀y∈scope.names,y.2=.free->X.env.scope.names.lookup y.1=some .cell\/X.env.scope.names.lookup y.1=some .free
 ix:wz X.N N scope.names ix=true
def AH(XS:List (Str×Td))(XN:List Str)(scope:Sx)(N:List Str)(ix:List (Option Nat)):Bool:=
 scope.names.all (λy=>decide (y.2≠.cell))&&decide (scope.kind=.function)&&scope.names.all (λy=>decide (y.2≠.local)||decide (scope.names.lookup y.1=some .local)) &&
  scope.names.all (λy=>decide (y.2≠.free)||(decide (XS.lookup y.1=some .cell)||decide (XS.lookup y.1=some .free)))&&wz XN N scope.names ix
def jt.of(h:AH X.env.scope.names X.N scope N ix=true):jt X scope N ix:=by
 unfold AH at h;simp only[Pn]at h;obtain⟨⟨⟨⟨h1,h2⟩,h3⟩,h4⟩,h5⟩:=h;refine⟨λy hy=>of_decide_eq_true (List.all_eq_true.mp h1 y hy),of_decide_eq_true h2,λy hy e=>?_,λy hy e=>?_,h5⟩
 ·rcases P0 _ _ ▸ List.all_eq_true.mp h3 y hy with q|q
  ·exact absurd e (of_decide_eq_true q)
  ·exact of_decide_eq_true q
 ·rcases P0 _ _ ▸ List.all_eq_true.mp h4 y hy with q|q
  ·exact absurd e (of_decide_eq_true q)
  ·rcases P0 _ _ ▸ q with q|q
   ·exact .inl (of_decide_eq_true q)
   ·exact .inr (of_decide_eq_true q)
def Jz(X:Cx)(scope:Sx)(N:List Str)(tg elt:Sz)(ifs:List Sz)(g:GF)(C:ay->R Bool)(Fe:FX):Prop:=
 ∀cl C' fp s H E,FG (dh X scope N cl C' fp s H E) tg g/\L8 (dh X scope N cl C' fp s H E) ifs C/\FE (dh X scope N cl C' fp s H E) elt Fe
def Ie(K:Q7)(F:ay->R Bool):TT:=λσ H Q=>∃O ρ b,fD K O H ρ σ/\F ρ=.ok b/\∀H',bT H H'->Q b H'
def MS(K:Q7)(F:FX):TE:=λσ H Q=>∃O ρ d,fD K O H ρ σ/\F ρ=.ok d/\∀v H',bT H H'->dD K (hid H' O) d v->Q v H'
def Jz.k(hb:Jz X scope N tg elt ifs g C Fe):∀cl C' fp s H E,PG (dh X scope N cl C' fp s H E) tg (LU X.K g)/\IT (dh X scope N cl C' fp s H E) ifs (Ie X.K C)/\PE (dh X scope N cl C' fp s H E) elt (MS X.K Fe):=λcl C' fp s H E=>by
 obtain⟨h1,h2,h3⟩:=hb cl C' fp s H E;refine⟨h1,λpins s σ H Q I ⟨O,ρ,b,e1,e2,q⟩=>h2 pins s σ H Q I ⟨O,ρ,e1,by rw[e2];exact q⟩,λpins s σ H Q I ⟨O,ρ,d,e1,e2,q⟩=>h3 pins s σ H Q I ⟨O,ρ,e1,by rw[e2];exact q⟩⟩
def Nb(X:Cx)(F:FX):TE:=λσ H Q=>∃O ρ,fD X.K O H ρ σ/\jJ X σ O H (F ρ) λd=>∀D H' total acc,d=.lst total->bT H H'->H D=none->H' D=some (.lst acc)->bx X.K (hid H' (D::O)) total acc->Q (.ref D) H'
def Ng{F:FX}:∀σ H Q,tF X F σ H Q->Nb X F σ H Q:=λσ H Q ⟨O,ρ,E,hF⟩=>⟨O,ρ,E,hF.imp λd q D H' total acc e sm hD hD' dn=>by
 subst e;have DO:D∉O:=E.all.not hD;exact q _ H' sm (cX.mpr ⟨D,acc,rfl,o9.of (by rw[oY DO];exact hD'),dn.mono (jI λa ha=>OL _ ha)⟩)⟩
def D4(tk:rT ix g):∀σ H Q,Nb X (gz ix G g C Fe) σ H Q->LR (Mv X G) (LU X.K g) (Ie X.K C) (MS X.K Fe) ix σ H Q:=λσ H Q ⟨O,ρ,E,hF⟩=>by
 refine⟨O,ρ,E,(jJ.bind hF).imp λds hF=>?_⟩;have hz:small ds.length=true:=by
  cases e:small ds.length with
  |true=>rfl
  |false=>rw[e]at hF;exact hF.elim
 rw[hz,if_pos rfl]at hF;cases hL:CY (inB ix ρ) g C Fe ds with
 |error z=>rw[hL]at hF;exact hF.elim
 |ok total=>
 rw[hL]at hF;have q:∀D H' total' acc,TG.D.lst total=.lst total'->bT H H'->H D=none->H' D=some (.lst acc)->bx X.K (hid H' (D::O)) total' acc->Q (.ref D) H':=hF;have e2:=hL;have hfill:=tk.fill;have hown:=tk.own;refine λJ H1 s1 wk D hD=>?_;have E1:fD X.K (D::O) (upd H1 D (.lst [])) (inB ix ρ) (inBlock ix σ):=((FR ix E).same s1).hideNew trivial hD;have DO:D∉O:=(E.all.same s1).not hD;refine⟨λi m σ' H'=>m=ds.length-i/\i<=ds.length/\bT H1 H'/\fD X.K (D::O) H' (inB ix ρ) σ'/\∃acc dn rest,H' D=some (.lst acc)/\acc.length<=i/\bx X.K (hid H' (D::O)) dn acc/\CY (inB ix ρ) g C Fe (ds.drop i)=.ok rest/\dn++rest=total,
  ⟨ds.length,by rw[P9],O3 _,cI hD _,E1,[],[],total,bI,OT _,dA.mpr rfl,by rw[PN];exact e2,rfl⟩,?_⟩
 rintro i m σ' H' ⟨rfl,hi,sm,E',acc,dn,rest,hacc,hlen,hdn,hrest,htot⟩;have sH:bT (hid H1 O) (hid H' (D::O)):=λb o h=>by
  have h2:=sm b o (aU H1 O b o h);unfold hid at h ⊢;by_cases hb:b∈O
  ·rw[if_pos hb]at h;cases h
  ·rw[if_neg hb]at h;have ne:b≠D:=bH h hD;rw[if_neg (by intro z;rcases List.mem_cons.mp z with z|z;exact ne z;exact hb z)];exact h2
 by_cases hlt:i<ds.length
 ·right;obtain⟨go,yl⟩:=(wk H' (D::O) i E'.all sH).1 ds[i] (by simp[hlt]);refine⟨go,λx H2 y=>?_⟩;obtain⟨s2,dx'⟩:=yl x H2 y;have E':=E'.same s2;have sm:=sm.trans s2;have hacc:=s2 _ _ hacc;have hdn:=hdn.mono (cH s2);rw[Qb hlt,pQ]at hrest;obtain⟨ρ1,g1,hrest⟩:=rY hrest;have g1:=KJ g1;obtain⟨c,c1,hrest⟩:=rY hrest;have c1:=Dh c1;refine⟨D::O,inB ix ρ,ds[i],ρ1,E',dx',g1,λσ3 E3 _=>?_⟩;refine⟨D::O,ρ1,c,E3,c1,λH4 s4=>?_⟩;have E4:=E3.same s4;have back:∀{H5:Hp},fD X.K (D::O) H5 ρ1 σ3->fD X.K (D::O) H5 (inB ix ρ) σ3:=λz=>z.forget λj x e=>hfill ρ _ _ g1 j x e;cases c with
  |true=>
   refine zp ?_;rw[if_pos rfl]at hrest;obtain⟨v,v1,hrest⟩:=rY hrest;have v1:=Dh v1;obtain⟨r,r1,hrest⟩:=rY hrest;cases hrest;refine⟨D::O,ρ1,v,E4,v1,λw H5 s5 dw=>?_⟩;have s45:=s4.trans s5;have ha5:H5 D=some (.lst acc):=s45 _ _ hacc;have hzl:ds.length<Sn:=Qc (of_decide_eq_true hz) (by decide);refine⟨acc,ha5,by omega,ds.length-(i+1),by omega,rfl,hlt,?_,?_,acc++[w],dn++[v],r,bI,by rw[Pk,Pq];omega,?_,r1,by rw[Qd];exact htot⟩
   ·intro b o h;rw[bp (bH h hD)];exact s45 _ _ (sm _ _ h)
   ·exact back ((E3.same s45).rewrite trivial OJ λj xs e=>absurd e (hown ρ _ _ g1 j xs))
   ·have s6:bT (hid H5 (D::O)) (hid (upd H5 D (.lst (acc++[w]))) (D::O)):=nN OJ;exact(hdn.mono ((cH s45).trans s6)).snoc (dw.mono s6)
  |false=>
   refine zE ?_;rw[if_neg OX]at hrest;exact⟨ds.length-(i+1),by omega,rfl,hlt,sm.trans s4,back E4,acc,dn,rest,s4 _ _ hacc,by omega,hdn.mono (cH s4),hrest,htot⟩
 ·left;have ei:i=ds.length:=by omega
  subst ei;refine⟨(wk H' (D::O) ds.length E'.all sH).2 rfl,?_⟩;rw[Qe]at hrest;cases hrest;rw[O5]at htot;subst htot;exact q D H' _ acc rfl (s1.trans sm) (s1.free hD) hacc hdn
def Hz(tk:rT ix g):∀σ H Q,tF X (gz ix G g C Fe) σ H Q->LR (Mv X G) (LU X.K g) (Ie X.K C) (MS X.K Fe) ix σ H Q:=λσ H Q h=>D4 tk σ H Q (Ng σ H Q h)
def N5(hc:X.calm=true)(ok:jt X scope N ix)(tk:rT ix g)(hi:FI X tg iter G)(hb:Jz X scope N tg elt ifs g C Fe)
  (hs:∀x,SN iter X.env x=pure x:=by intro _;rfl):FE X (.ListComp elt [⟨tg,iter,ifs,0⟩] scope pos) (gz ix G g C Fe):=
 PE.weak (Ho hc ok.cell ok.kind ok.names ok.free ok.ix hi hb.k hs) (Hz tk)
end
structure Ks where
 nx:ay->R D
 bk:ay->R D:=λ_=>un
 ct:ay->R D:=λ_=>un
 ex:Ex->ay->R D:=λx _=>.error (some x)
abbrev cK:=Ks->ay->R D
def su{α:Type}(r:R α)(k:Ks)(ρ:ay)(f:α->R D):R D:=match r with
 |.ok a=>f a
 |.error (some x)=>k.ex x ρ
 |.error none=>un
structure Base(Hb:Hp)(Ob:List Si)(H:Hp)(O:List Si):Prop where
 same:bT Hb H
 sub:∀a∈Ob,a∈O
 new:∀a∈O,a∈Ob\/Hb a=none
def Eo(K:Q7)(H:Hp)(O:List Si):List Si->List D->Prop
 |[],[]=>True
 |b::bs,x::xs=>jg K H O b x/\Eo K H O bs xs
 |_,_=>False
def Ba(K:Q7)(H:Hp)(O:List Si)(a:Si)(bs:List Si)(d:D):Prop:=
 ∃xs,Eo K H O bs xs/\((d=.lst xs/\H a=some (.lst (bs.map .ref)))\/(∃kvs:List (List Key×V),d=.dct (kvs.map λp=>.tup (p.1.map bQ)) xs/\H a=some (.dT kvs)/\kvs.map (·.2)=bs.map .ref)\/(d=.dct [] xs/\bs=[]/\H a=some (.dK [])))
def C8(K:Q7)(Hb:Hp)(Ob O:List Si)(H:Hp)(ρ:ay)(σ:St)(i:Nat)(d:D):Prop:=
 ∃a bs,σ[i]?=some (some (.ref a))/\Ba K H O a bs d/\(a::bs).Nodup/\(∀b∈a::bs,b∈O/\Hb b=none/\b∉Ob/\∀(j:Nat) d',ρ[j]?=some (some (.own d'))->σ[j]?≠some (some (.ref b)))/\∀(j:Nat) d',ρ[j]?=some (some (.nest d'))->j=i
def Eo.mono{K:Q7}{H H':Hp}{O O':List Si}(s:bT (hid H O) (hid H' O')):∀{bs:List Si}{xs:List D},Eo K H O bs xs->(∀b∈bs,(∃o,H b=some o)->H' b=H b)->Eo K H' O' bs xs
 |[],[],_,_=>trivial
 |b::bs,x::xs,h,e=>⟨h.1.mono (e b OJ h.1.some).symm s,Eo.mono s h.2 λb' hb=>e b' (OL _ hb)⟩
 |[],_::_,h,_=>h.elim
 |_::_,[],h,_=>h.elim
def Eo.some{K:Q7}{H:Hp}{O:List Si}:∀{bs:List Si}{xs:List D},Eo K H O bs xs->∀b∈bs,∃o,H b=some o
 |[],_,_,_,hb=>nomatch hb
 |b::bs,x::xs,h,b',hb=>by
  rcases List.mem_cons.mp hb with z|z
  ·rw[z];exact h.1.some
  ·exact Eo.some h.2 b' z
 |_::_,[],h,_,_=>h.elim
def Ba.some{K:Q7}{H:Hp}{O:List Si}{a:Si}{bs:List Si}{d:D}(h:Ba K H O a bs d):∀b∈a::bs,∃o,H b=some o:=λb hb=>by
 obtain⟨xs,h1,h2⟩:=h;rcases List.mem_cons.mp hb with z|z
 ·rw[z];rcases h2 with⟨_,q⟩|⟨_,_,q,_⟩|⟨_,_,q⟩<;>exact⟨_,q⟩
 ·exact h1.some b z
def Ba.mono{K:Q7}{H H':Hp}{O O':List Si}{a:Si}{bs:List Si}{d:D}(h:Ba K H O a bs d)(s:bT (hid H O) (hid H' O'))(e:∀b∈a::bs,(∃o,H b=Option.some o)->H' b=H b):Ba K H' O' a bs d:=by
 have ea:=e a OJ (h.some a OJ);obtain⟨xs,h1,h2⟩:=h;refine⟨xs,h1.mono s λb hb=>e b (OL _ hb),?_⟩;rw[ea];exact h2
def C8.to{K:Q7}{Hb Hb':Hp}{Ob O O':List Si}{H H':Hp}{ρ ρ':ay}{σ σ':St}{i:Nat}{d:D}(h:C8 K Hb Ob O H ρ σ i d)(hσ:σ'[i]?=σ[i]?)(s:bT (hid H O) (hid H' O'))
  (k:∀b,b∈O->Hb b=none->b∉Ob->(∀(j:Nat) d',ρ[j]?=some (some (.own d'))->σ[j]?≠some (some (.ref b)))->(∃o,H b=some o)->H' b=H b/\b∈O'/\Hb' b=none/\∀(j:Nat) d',ρ'[j]?=some (some (.own d'))->σ'[j]?≠some (some (.ref b)))
  (n:∀(j:Nat) d',ρ'[j]?=some (some (.nest d'))->∃d2,ρ[j]?=some (some (.nest d2))):C8 K Hb' Ob O' H' ρ' σ' i d:=by
 obtain⟨a,bs,h1,h2,h3,h4,h5⟩:=h;refine⟨a,bs,hσ.trans h1,h2.mono s λb hb ho=>?_,h3,λb hb=>?_,λj d' q=>?_⟩
 ·obtain⟨q1,q2,q3,q4⟩:=h4 b hb;exact(k b q1 q2 q3 q4 ho).1
 ·obtain⟨q1,q2,q3,q4⟩:=h4 b hb;obtain⟨_,w2,w3,w4⟩:=k b q1 q2 q3 q4 (h2.some b hb);exact⟨w2,w3,q3,w4⟩
 ·obtain⟨d2,q⟩:=n j d' q;exact h5 j d2 q
structure ip(K:Q7)(Hb:Hp)(Ob O:List Si)(H:Hp)(ρ:ay)(σ:St):Prop where
 env:fD K O H ρ σ
 base:Base Hb Ob H O
 mine:∀(i:Nat) xs a,ρ[i]?=some (some (.own xs))->σ[i]?=some (some (.ref a))->Hb a=none/\a∉Ob
 nst:∀(i:Nat) d,ρ[i]?=some (some (.nest d))->C8 K Hb Ob O H ρ σ i d
def Base.same'{Hb:Hp}{Ob:List Si}{H H':Hp}{O:List Si}(b:Base Hb Ob H O)(s:bT H H'):Base Hb Ob H' O:=⟨b.same.trans s,b.sub,b.new⟩
def ip.same{K:Q7}{Hb:Hp}{Ob O:List Si}{H H':Hp}{ρ:ay}{σ:St}(h:ip K Hb Ob O H ρ σ)(s:bT H H'):ip K Hb Ob O H' ρ σ:=⟨h.env.same s,h.base.same' s,h.mine,λi d q=>(h.nst i d q).to rfl (cH s) (λb q1 q2 q3 q4 ⟨o,ho⟩=>⟨by rw[ho,s _ _ ho],q1,q2,q4⟩) λj d' z=>⟨d',z⟩⟩
def ip.after{K:Q7}{Hb:Hp}{Ob O:List Si}{H:Hp}{ρ ρ':ay}{σ σ':St}(S:ip K Hb Ob O H ρ σ)(E':fD K O H ρ' σ')(own:∀(i:Nat) x,ρ'[i]?=some (some x)->(∀d,x≠.val d)->σ'[i]?=σ[i]?/\ρ[i]?=some (some x)):ip K Hb Ob O H ρ' σ':=
 ⟨E',S.base,fun i xs a q1 q2=>by
  obtain⟨w1,w2⟩:=own i _ q1 (λ_ z=>nomatch z);rw[w1]at q2;exact S.mine i xs a w2 q2,λi d q=>by
  obtain⟨w1,w2⟩:=own i _ q (λ_ z=>nomatch z);refine(S.nst i d w2).to w1 (λ_ _ z=>z) (λb q1 q2 q3 q4 _=>⟨rfl,q1,q2,λl d' w=>?_⟩) λl d' w=>⟨d',(own l _ w (λ_ z=>nomatch z)).2⟩
  obtain⟨z1,z2⟩:=own l _ w (λ_ z=>nomatch z);rw[z1];exact q4 l d' z2⟩
structure LN(X:Cx)(Hb:Hp)(Ob:List Si)(E:Ends)(k:Ks)(r:R D):Prop where
 ne:r≠un
 nx:∀O ρ σ H,ip X.K Hb Ob O H ρ σ->k.nx ρ=r->E.nx σ H
 bk:∀O ρ σ H,ip X.K Hb Ob O H ρ σ->k.bk ρ=r->E.bk σ H
 ct:∀O ρ σ H,ip X.K Hb Ob O H ρ σ->k.ct ρ=r->E.ct σ H
 rt:∀d O v H,r=.ok d->Base Hb Ob H O->dD X.K (hid H O) d v->E.rt v H
 ex:∀O ρ σ H x,ip X.K Hb Ob O H ρ σ->k.ex x ρ=r->JC X σ O H x
def MI(X:Cx)(Hb:Hp)(Ob:List Si)(F:cK):TS:=λE σ H=>∃O ρ k r,ip X.K Hb Ob O H ρ σ/\F k ρ=r/\LN X Hb Ob E k r
def FS(X:Cx)(st:SD)(F:cK):Prop:=∀Hb Ob,PS X st (MI X Hb Ob F)
def Bi(X:Cx)(st:List SD)(F:cK):Prop:=∀Hb Ob,xS X st (MI X Hb Ob F)
def jJ.on{X:Cx}{Hb:Hp}{Ob O:List Si}{H:Hp}{ρ:ay}{σ:St}{E:Ends}{k:Ks}{r:R D}{α:Type}{fr:R α}{G:α->R D}{Q:α->Prop}(h:su fr k ρ G=r)(hk:LN X Hb Ob E k r)(S:ip X.K Hb Ob O H ρ σ)(q:∀a,G a=r->Q a):jJ X σ O H fr Q:=by
 match fr,h with
 |.ok a,h=>exact q a h
 |.error (some x),h=>exact hk.ex O ρ σ H x S h
 |.error none,h=>exact absurd h.symm hk.ne
section
variable{X:Cx}{st:SD}{rest body:List SD}{pos:Pos}
def cU:cK:=λk ρ=>k.nx ρ
def aG(F1 F2:cK):cK:=λk ρ=>F1 {k with nx:=F2 k} ρ
def Ln:Bi X [] cU:=λHb Ob=>xS.weak Gg λE σ H ⟨O,ρ,k,r,S,hF,hk⟩=>hk.nx O ρ σ H S hF
def Ld{F1 F2:cK}(h1:FS X st F1)(h2:Bi X rest F2):Bi X (st::rest) (aG F1 F2):=λHb Ob=>xS.weak (Dq (h1 Hb Ob) (h2 Hb Ob)) λE σ H ⟨O,ρ,k,r,S,hF,hk⟩=>
 ⟨O,ρ,{k with nx:=F2 k},r,S,hF,hk.ne,λO' ρ' σ' H' S' e=>⟨O',ρ',k,r,S',e,hk⟩,hk.bk,hk.ct,hk.rt,hk.ex⟩
def LO{F1:cK}(h1:FS X st F1):Bi X [st] F1:=λHb Ob=>AG (h1 Hb Ob)
def bL(f:FX):cK:=λk ρ=>su (f ρ) k ρ .ok
def MF{e:Sz}{f:FX}(h:FE X e f):FS X (.Return (some e) pos) (bL f):=λHb Ob=>PS.weak (Jb h) λE σ H ⟨O,ρ,k,r,S,hF,hk⟩=>
 ⟨O,ρ,S.env,jJ.on hF hk S λd e v H' s' d'=>hk.rt d O v H' e.symm (S.base.same' s') d'⟩
def Kg:cK:=λ_ _=>.ok .non
def lK(c:ay->R Bool)(A B:cK):cK:=λk ρ=>su (c ρ) k ρ λb=>if b then A k ρ else B k ρ
def NZ{c:Sz}{a b:List SD}{tc:ay->R Bool}{A B:cK}(hc:FT X c tc)(ha:Bi X a A)(hb:Bi X b B):FS X (.If c a b pos) (lK tc A B):=λHb Ob=>PS.weak (Ky hc (ha Hb Ob) (hb Hb Ob)) λE σ H ⟨O,ρ,k,r,S,hF,hk⟩=>
 ⟨O,ρ,S.env,jJ.on hF hk S fun z e H1 s1=>by
  cases z with
  |true=>exact zp ⟨O,ρ,k,r,S.same s1,e,hk⟩
  |false=>exact zE ⟨O,ρ,k,r,S.same s1,e,hk⟩⟩
def bg(i:Nat)(f:FX):cK:=λk ρ=>su (f ρ) k ρ λd=>k.nx (setV i d ρ)
def ip.setV{K:Q7}{Hb:Hp}{Ob O:List Si}{H:Hp}{ρ:ay}{σ:St}(E:ip K Hb Ob O H ρ σ){i:Nat}{d:D}{v:V}(hi:i<σ.length)(hd:dD K (hid H O) d v):ip K Hb Ob O H (setV i d ρ) (σ.set i (some v)):=
  ⟨E.env.setV hi hd,E.base,fun j xs a e1 e2=>by
    rcases bZ e1 with⟨_,q⟩|⟨ne,q⟩
    ·cases q
    · rw[OQ (Ne.symm ne)]at e2
      exact E.mine j xs a q e2,
   λj dn e=>by
    rcases bZ e with⟨_,q⟩|⟨ne,q⟩
    ·cases q
    · refine(E.nst j dn q).to (OQ (Ne.symm ne)) (λ_ _ z=>z) (λb q1 q2 q3 q4 _=>⟨rfl,q1,q2,λl d' w=>?_⟩) λl d' w=>?_
      · rcases bZ w with⟨_,z⟩|⟨nl,z⟩
        ·cases z
        ·rw[OQ (Ne.symm nl)];exact q4 l d' z
      · rcases bZ w with⟨_,z⟩|⟨_,z⟩
        ·cases z
        ·exact⟨d',z⟩⟩
def vJ{f:FX}{i:Nat}(hi:i<X.N.length)(h:PS X st (DH (tF X f) (v8 i))):FS X st (bg i f):=λHb Ob pins s σ H E I ⟨O,ρ,k,r,S,hF,hk⟩=>
 h pins s σ H E I ⟨O,ρ,S.env,jJ.on hF hk S λd e v H1 s1 d1=>hk.nx O _ _ H1 ((S.same s1).setV (by rw[I.len];exact hi) d1) e⟩
def NT{i:Nat}{x:Str}{e:Sz}{f:FX}{pos':Pos}(hN:X.N.Nodup)(hi:X.N[i]?=some x)(hx:Loc X.env.scope x)(he:FE X e f)(hs:swapsWith e (some (.Name x pos')) pos.line X.env=pure false:=by rfl)(hf:X.fn x=true\/X.env.scope.names.lookup x=some .local:=by first|exact .inl rfl|exact .inr rfl|assumption):
  FS X (.Assign [.Name x pos'] e pos) (bg i f):=vJ (List.getElem?_eq_some_iff.mp hi).1 (DM hN hi hx he hs hf)
def N1{elt tg iter:Sz}{ifs:List Sz}{scope:Sx}{N:List Str}{ix:List (Option Nat)}{G:ay->R (List D)}{g:GF}{C:ay->R Bool}{Fe:FX}{i:Nat}{y:Str}{lpos py spos:Pos}(hN:X.N.Nodup)(hi':X.N[i]?=some y)(hx:Loc X.env.scope y)
  (hc:X.calm=true) (ok:jt X scope N ix) (tk:rT ix g) (hi:FI X tg iter G) (hb:Jz X scope N tg elt ifs g C Fe)
  (hsw:swapsWith (.ListComp elt [⟨tg,iter,ifs,0⟩] scope lpos) (some (.Name y py)) spos.line X.env=pure true:=by rfl)
  (hs:∀x,SN iter X.env x=pure x:=by intro _;rfl)
  (hf:X.fn y=true\/X.env.scope.names.lookup y=some .local:=by first|exact .inl rfl|exact .inr rfl|assumption):
  FS X (.Assign [.Name y py] (.ListComp elt [⟨tg,iter,ifs,0⟩] scope lpos) spos) (bg i (gz ix G g C Fe)):=
 vJ (List.getElem?_eq_some_iff.mp hi').1 (PS.weak (Hv hN hi' hx hc ok.cell ok.kind ok.names ok.free ok.ix hi hb.k hsw hs hf) λE σ H q=>Hz tk σ H _ q)
def D3(f:FX)(g:GF):cK:=λk ρ=>su (f ρ) k ρ λd=>(rO (g d ρ)).bind k.nx
def Nf{tg e:Sz}{f:FX}{g:GF}(he:FE X e f)(hg:FG X tg g)(hs:swapsWithSole [tg] e pos.line X.env=pure false:=by rfl)(hw:swappedStores [tg] e X.env=pure none:=by rfl)
  (h1:(assignEach [tg] X.env).map (·.2)=[assign tg X.env]:=by rfl):FS X (.Assign [tg] e pos) (D3 f g):=λHb Ob=>PS.weak (Ia he hg hs hw h1) λE σ H ⟨O,ρ,k,r,S,hF,hk⟩=>
 ⟨O,ρ,S.env,jJ.on hF hk S fun d e v H1 s1 d1=>by
  cases hg:g d ρ with
  |none=>rw[hg]at e;exact absurd e.symm hk.ne
  |some ρ1=>
   rw[hg]at e;refine⟨O,ρ,d,ρ1,(S.same s1).env,d1,hg,λσ' E' own=>hk.nx O ρ1 σ' H1 ((S.same s1).after E' own) e⟩⟩
def yJ:cK:=λ_ _=>un
def Lv:FS X st yJ:=λHb Ob pins s σ H E I ⟨O,ρ,k,r,S,hF,hk⟩=>absurd hF.symm hk.ne
def kill(is:List Nat)(ρ:ay):ay:=is.foldl (λρ i=>ρ.set i none) ρ
def kY:∀(is:List Nat)(ρ:ay)(i:Nat)(x:S),(kill is ρ)[i]?=some (some x)->ρ[i]?=some (some x)
 |[],ρ,i,x,e=>e
 |j::is,ρ,i,x,e=>by
  rcases bZ (kY is (ρ.set j none) i x e)with⟨_,q⟩|⟨_,q⟩
  ·cases q
  ·exact q
def ip.kill{K:Q7}{Hb:Hp}{Ob O:List Si}{H:Hp}{ρ:ay}{σ:St}(E:ip K Hb Ob O H ρ σ)(is:List Nat):ip K Hb Ob O H (kill is ρ) σ:=
 ⟨E.env.forget (kY is ρ),E.base,λi xs a e1 e2=>E.mine i xs a (kY is ρ i _ e1) e2,λi d q=>(E.nst i d (kY is ρ i _ q)).to rfl (λ_ _ z=>z) (λb q1 q2 q3 q4 _=>⟨rfl,q1,q2,λl d' w=>q4 l d' (kY is ρ l _ w)⟩) λl d' w=>⟨d',kY is ρ l _ w⟩⟩
def eD(is:List Nat)(F:cK):cK:=λk ρ=>F k (kill is ρ)
def Kf{st:List SD}{F:cK}(is:List Nat)(h:Bi X st F):Bi X st (eD is F):=λHb Ob=>xS.weak (h Hb Ob) λE σ H ⟨O,ρ,k,r,S,hF,hk⟩=>⟨O,TG.kill is ρ,k,r,S.kill is,hF,hk⟩
end
def mH(g:GF)(B:cK)(k:Ks):List D->ay->R D
 |[],ρ=>k.nx ρ
 |d::ds,ρ=>(rO (g d ρ)).bind λρ1=>B ⟨mH g B k ds,k.nx,mH g B k ds,k.ex⟩ ρ1
def ku(G:ay->R (List D))(g:GF)(B:cK):cK:=λk ρ=>su (G ρ) k ρ λds=>mH g B k ds ρ
def lb(H:Hp)(O Ob:List Si):Hp:=λb=>if b∈O/\b∉Ob then none else H b
def wD{H:Hp}{O Ob:List Si}{b:Si}(h1:b∈O)(h2:b∉Ob):lb H O Ob b=none:=by unfold lb;rw[if_pos ⟨h1,h2⟩]
def Gu{H:Hp}{O Ob:List Si}{b:Si}{o:HO}(h:lb H O Ob b=some o):H b=some o/\¬(b∈O/\b∉Ob):=by
 unfold lb at h;split at h
 ·cases h
 ·rename_i n;exact⟨h,n⟩
def E7{H:Hp}{O Ob:List Si}{b:Si}{o:HO}(h:H b=some o)(n:¬(b∈O/\b∉Ob)):lb H O Ob b=some o:=by unfold lb;rw[if_neg n];exact h
def Base.loop{Hb:Hp}{Ob:List Si}{H:Hp}{O:List Si}(b:Base Hb Ob H O):Base (lb H O Ob) Ob H O:=
 ⟨fun c o h=>(Gu h).1,b.sub,fun a ha=>by
  by_cases h:a∈Ob
  ·exact .inl h
  ·exact .inr (wD ha h)⟩
def Base.back{Hb:Hp}{Ob:List Si}{H H':Hp}{O O':List Si}(b:Base Hb Ob H O)(b':Base (lb H O Ob) Ob H' O'):Base Hb Ob H' O':=by
 have up:bT Hb (lb H O Ob):=λc o h=>E7 (b.same c o h) λ⟨z1,z2⟩=>by
  rcases b.new c z1 with z|z
  ·exact z2 z
  ·rw[z]at h;cases h
 exact⟨up.trans b'.same,b'.sub,λa ha=>(b'.new a ha).imp id up.free⟩
def ip.loop{K:Q7}{Hb:Hp}{Ob O:List Si}{H:Hp}{ρ:ay}{σ:St}(E:ip K Hb Ob O H ρ σ):ip K (lb H O Ob) Ob O H ρ σ:=
 ⟨E.env,E.base.loop,fun i xs a e1 e2=>by
  obtain⟨_,n⟩:=E.mine i xs a e1 e2;obtain⟨a',e3,e4,_⟩:=E.env.own i xs e1;rw[e2]at e3;cases e3;exact⟨wD e4 n,n⟩,λi d q=>(E.nst i d q).to rfl (λ_ _ z=>z) (λb q1 q2 q3 q4 _=>⟨rfl,q1,wD q1 q3,q4⟩) λl d' w=>⟨d',w⟩⟩
def ip.back{K:Q7}{Hb:Hp}{Ob O O':List Si}{H H':Hp}{ρ':ay}{σ':St}(b:Base Hb Ob H O)(E:ip K (lb H O Ob) Ob O' H' ρ' σ'):ip K Hb Ob O' H' ρ' σ':=
 have up:bT Hb (lb H O Ob):=λc o h=>E7 (b.same c o h) λ⟨z1,z2⟩=>by
  rcases b.new c z1 with z|z
  ·exact z2 z
  ·rw[z]at h;cases h
 ⟨E.env,b.back E.base,fun i xs a e1 e2=>by
  obtain⟨z,n⟩:=E.mine i xs a e1 e2;exact⟨up.free z,n⟩,λi d q=>(E.nst i d q).to rfl (λ_ _ z=>z) (λb q1 q2 q3 q4 _=>⟨rfl,q1,up.free q2,q4⟩) λl d' w=>⟨d',w⟩⟩
def Ff{Hb:Hp}{Ob O O':List Si}{H H':Hp}(b:Base Hb Ob H O)(b':Base (lb H O Ob) Ob H' O'):bT (hid H O) (hid H' O'):=λc o h=>by
 unfold hid at h ⊢;by_cases hc:c∈O
 ·rw[if_pos hc]at h;cases h
 ·rw[if_neg hc]at h;have h1:lb H O Ob c=some o:=E7 h λz=>hc z.1;rw[if_neg]
  ·exact b'.same _ _ h1
  ·intro z;rcases b'.new c z with z|z
   ·exact hc (b.sub c z)
   ·rw[h1]at z;cases z
def LN.loop{X:Cx}{Hb:Hp}{Ob O:List Si}{H:Hp}{E E':Ends}{k k':Ks}{r:R D}(hk:LN X Hb Ob E k r)(b:Base Hb Ob H O)(hn:∀O' ρ' σ' H',ip X.K (lb H O Ob) Ob O' H' ρ' σ'->k'.nx ρ'=r->E'.nx σ' H')(hc:∀O' ρ' σ' H',ip X.K (lb H O Ob) Ob O' H' ρ' σ'->k'.ct ρ'=r->E'.ct σ' H')
    (eb:k'.bk=k.nx) (ee:k'.ex=k.ex) (Eb:E'.bk=E.nx) (Er:E'.rt=E.rt):LN X (lb H O Ob) Ob E' k' r:=
  ⟨hk.ne,hn,fun O' ρ' σ' H' S e=>by rw [Eb]; exact hk.nx O' ρ' σ' H' (S.back b) (by rw [<- eb]; exact e),hc,fun d O' v H' e b' dv=>by rw [Er]; exact hk.rt d O' v H' e (b.back b') dv,
   λO' ρ' σ' H' x S e=>hk.ex O' ρ' σ' H' x (S.back b) (by rw[<-ee];exact e)⟩
section
variable{X:Cx}{st:SD}{rest body:List SD}{pos:Pos}
def MM{tg iter:Sz}{G:ay->R (List D)}{g:GF}{B:cK}(hp:SM (model X.prog X.w) X.A X.env X.xe)(hc:X.calm=true)(hi:FI X tg iter G)(hg:FG X tg g)(hb:Bi X body B)
  (hs:∀x,SN iter X.env x=pure x:=by intro _;rfl):FS X (.For tg iter body [] pos) (ku G g B):=λHb Ob pins s σ H E I ⟨O,ρ,k,r,S,hF,hk⟩=>by
 have hall:xS X body (λE σ H=>∃Hb',MI X Hb' Ob B E σ H):=λpins s σ H E I ⟨Hb',q⟩=>hb Hb' Ob pins s σ H E I q;refine HV hp hc hi hg hall hs pins s σ H E I ⟨O,ρ,S.env,jJ.on hF hk S λds hF J H1 s1 wk=>?_⟩;have E1:=S.same s1;refine⟨λi m σ H=>m=ds.length-i/\i<=ds.length/\∃O' ρ',ip X.K (lb H1 O Ob) Ob O' H ρ' σ/\mH g B k (ds.drop i) ρ'=r,
  ⟨ds.length,by rw[P9],O3 _,O,ρ,E1.loop,by rw[PN];exact hF⟩,?_⟩
 rintro i m σ' H' ⟨rfl,hi',O',ρ',E',hr⟩;have sD:=Ff E1.base E'.base;by_cases hlt:i<ds.length
 ·right;obtain⟨go,yl⟩:=(wk H' O' i E'.env.all sD).1 ds[i] (by simp[hlt]);refine⟨go,λσ2 H2=>ds.length-(i+1)=ds.length-(i+1)/\i+1<=ds.length/\∃O' ρ',ip X.K (lb H1 O Ob) Ob O' H2 ρ' σ2/\mH g B k (ds.drop (i+1)) ρ'=r,λσ2 H2 z=>⟨ds.length-(i+1),by omega,z⟩,λx H2 y=>?_⟩;obtain⟨s2,dx⟩:=yl x H2 y;have E':=E'.same s2;rw[Qb hlt]at hr;cases hg':g ds[i] ρ' with
  |none=>
   have hr':(rO (g ds[i] ρ')).bind (λρ1=>B ⟨mH g B k (ds.drop (i+1)),k.nx,mH g B k (ds.drop (i+1)),k.ex⟩ ρ1)=r:=hr;rw[hg']at hr';exact absurd hr'.symm hk.ne
  |some ρ1=>
   have hr':(rO (g ds[i] ρ')).bind (λρ1=>B ⟨mH g B k (ds.drop (i+1)),k.nx,mH g B k (ds.drop (i+1)),k.ex⟩ ρ1)=r:=hr;rw[hg']at hr';refine⟨O',ρ',ds[i],ρ1,E'.env,dx,hg',λσ3 E3 own=>?_⟩;have E3':ip X.K (lb H1 O Ob) Ob O' H2 ρ1 σ3:=E'.after E3 own;exact⟨lb H1 O Ob,O',ρ1,⟨mH g B k (ds.drop (i+1)),k.nx,mH g B k (ds.drop (i+1)),k.ex⟩,r,E3',hr',hk.loop E1.base (λO4 ρ4 σ4 H4 E4 z=>⟨rfl,hlt,O4,ρ4,E4,z⟩) (λO4 ρ4 σ4 H4 E4 z=>⟨rfl,hlt,O4,ρ4,E4,z⟩) rfl rfl rfl rfl⟩
 ·left;have ei:i=ds.length:=by omega
  subst ei;refine⟨(wk H' O' ds.length E'.env.all sD).2 rfl,?_⟩;rw[Qe]at hr;exact hk.nx O' ρ' σ' H' (E'.back E1.base) hr
end
end TG
namespace TG
open PySem PySem.Spec L2
variable[bh]
def ip.setO{K:Q7}{Hb:Hp}{Ob O:List Si}{H:Hp}{ρ:ay}{σ:St}(E:ip K Hb Ob O H ρ σ){i:Nat}{d d':D}{a:Si}{o:HO}(hi:ρ[i]?=some (some (.own d)))(ha:σ[i]?=some (some (.ref a)))(m:xx o)(new:jg K (upd H a o) O a d'):
  ip K Hb Ob O (upd H a o) (ρ.set i (some (.own d'))) σ:=by
 obtain⟨a',ha',haO,hat⟩:=E.env.own i d hi;rw[ha]at ha';cases ha';obtain⟨m1,m2⟩:=E.mine i d a hi ha;have s:bT (hid H O) (hid (upd H a o) O):=nN haO;have own:∀(j:Nat) ys,(ρ.set i (some (.own d')))[j]?=some (some (.own ys))->∃ys',ρ[j]?=some (some (.own ys')):=λj ys q=>by
  rcases bZ q with⟨hj,_⟩|⟨_,q⟩
  ·rw[hj];exact⟨d,hi⟩
  ·exact⟨ys,q⟩
 refine⟨⟨λj d1 e=>?_,λj ys e=>?_,λj l ys zs b q1 q2 q3 q4=>?_,E.env.all.upd haO m⟩,⟨λb u h=>?_,E.base.sub,E.base.new⟩,λj ys b q1 q2=>?_,λj dn q=>?_⟩
 ·rcases bZ e with⟨_,q⟩|⟨ne,q⟩
  ·cases q
  ·obtain⟨w,q1,q2⟩:=E.env.val j d1 q;exact⟨w,q1,q2.mono s⟩
 ·rcases bZ e with⟨hj,q⟩|⟨ne,q⟩
  ·cases q;rw[hj];exact⟨a,ha,haO,new⟩
  ·obtain⟨b,q1,q2,q3⟩:=E.env.own j ys q;have nb:b≠a:=λz=>ne (E.env.one j i ys d a q hi (by rw[<-z];exact q1) ha);exact⟨b,q1,q2,q3.mono (by rw[bp nb]) s⟩
 ·obtain⟨_,q1'⟩:=own j ys q1;obtain⟨_,q2'⟩:=own l zs q2;exact E.env.one j l _ _ b q1' q2' q3 q4
 ·have nb:b≠a:=λz=>by rw[z,m1]at h;cases h
  rw[bp nb];exact E.base.same b u h
 ·obtain⟨ys',q⟩:=own j ys q1;exact E.mine j ys' b q q2
 ·have q:ρ[j]?=some (some (.nest dn)):=by
   rcases bZ q with⟨_,z⟩|⟨_,z⟩
   ·cases z
   ·exact z
  refine(E.nst j dn q).to rfl s (λb q1 q2 q3 q4 _=>⟨bp λz=>q4 i d hi (by rw[z];exact ha),q1,q2,λl d1 w=>?_⟩) λl d1 w=>?_
  ·obtain⟨_,w'⟩:=own l d1 w;exact q4 l _ w'
  ·rcases bZ w with⟨_,z⟩|⟨_,z⟩
   ·cases z
   ·exact⟨d1,z⟩
def ip.setNew{K:Q7}{Hb:Hp}{Ob O:List Si}{H H':Hp}{ρ:ay}{σ:St}(E:ip K Hb Ob O H ρ σ){i:Nat}{d:D}{p:Si}(hi:i<σ.length)(sm:bT H H')(hp:H p=none)(m:∃o,H' p=some o/\xx o)(new:jg K H' (p::O) p d):
  ip K Hb Ob (p::O) H' (ρ.set i (some (.own d))) (σ.set i (some (.ref p))):=by
 have hpO:p∉O:=E.env.all.not hp;have s:bT (hid H O) (hid H' (p::O)):=λb o h=>by
  unfold hid at h ⊢;by_cases hb:b∈O
  ·rw[if_pos hb]at h;cases h
  ·rw[if_neg hb]at h;have ne:=bH h hp;rw[if_neg (by intro z;rcases List.mem_cons.mp z with z|z;exact ne z;exact hb z)];exact sm _ _ h
 have other:∀(j:Nat) xs,ρ[j]?=some (some (.own xs))->σ[j]?≠some (some (.ref p)):=λj xs e z=>by
  obtain⟨a,e1,e2,e3⟩:=E.env.own j xs e;rw[z]at e1;cases e1;obtain⟨o,e3⟩:=e3.some;rw[hp]at e3;cases e3
 refine⟨⟨λj d' e=>?_,λj xs e=>?_,λj k xs ys a e1 e2 e3 e4=>?_,⟨(E.env.all.same sm).1,λa ha=>?_⟩⟩,⟨E.base.same.trans sm,λa ha=>OL _ (E.base.sub a ha),λa ha=>?_⟩,λj xs a e1 e2=>?_,λj dn e=>?_⟩
 ·rcases bZ e with⟨_,q⟩|⟨ne,q⟩
  ·cases q
  ·obtain⟨v,q1,q2⟩:=E.env.val j d' q;exact⟨v,by rw[OQ (Ne.symm ne)];exact q1,q2.mono s⟩
 ·rcases bZ e with⟨hj,q⟩|⟨ne,q⟩
  ·cases q;rw[hj];exact⟨p,OO hi,OJ,new⟩
  ·obtain⟨a,q1,q2,q3⟩:=E.env.own j xs q;obtain⟨o,ho⟩:=q3.some;exact⟨a,by rw[OQ (Ne.symm ne)];exact q1,OL _ q2,q3.mono (sq sm ho) s⟩
 ·rcases bZ e1 with⟨hj,q1⟩|⟨nj,q1⟩
  ·rcases bZ e2 with⟨hk,q2⟩|⟨nk,q2⟩
   ·exact hj.trans hk.symm
   ·rw[hj,OO hi]at e3;cases e3;rw[OQ (Ne.symm nk)]at e4;exact absurd e4 (other k ys q2)
  ·rcases bZ e2 with⟨hk,q2⟩|⟨nk,q2⟩
   ·rw[hk,OO hi]at e4;cases e4;rw[OQ (Ne.symm nj)]at e3;exact absurd e3 (other j xs q1)
   ·rw[OQ (Ne.symm nj)]at e3;rw[OQ (Ne.symm nk)]at e4;exact E.env.one j k xs ys a q1 q2 e3 e4
 ·rcases List.mem_cons.mp ha with rfl|ha
  ·exact m
  ·exact(E.env.all.same sm).2 a ha
 ·rcases List.mem_cons.mp ha with rfl|ha
  ·exact .inr (E.base.same.free hp)
  ·exact E.base.new a ha
 ·rcases bZ e1 with⟨hj,q1⟩|⟨nj,q1⟩
  ·rw[hj,OO hi]at e2;cases e2;exact⟨E.base.same.free hp,λz=>hpO (E.base.sub p z)⟩
  ·rw[OQ (Ne.symm nj)]at e2;exact E.mine j xs a q1 e2
 ·rcases bZ e with⟨_,q⟩|⟨ne,q⟩
  ·cases q
  ·refine(E.nst j dn q).to (OQ (Ne.symm ne)) s (λb q1 q2 q3 q4 ⟨o,ho⟩=>⟨by rw[ho,sm _ _ ho],OL _ q1,q2,λl d1 w=>?_⟩) λl d1 w=>?_
   ·rcases bZ w with⟨hl,z⟩|⟨nl,z⟩
    ·rw[hl,OO hi];intro z;cases z;rw[hp]at ho;cases ho
    ·rw[OQ (Ne.symm nl)];exact q4 l d1 z
   ·rcases bZ w with⟨_,z⟩|⟨_,z⟩
    ·cases z
    ·exact⟨d1,z⟩
def MD(X:Cx)(F:FX):TE:=λσ H Q=>∃O ρ,fD X.K O H ρ σ/\jJ X σ O H (F ρ) λd=>∀p H',bT H H'->H p=none->(∃o,H' p=some o/\xx o)->jg X.K H' (p::O) p d->Q (.ref p) H'
def FN(X:Cx)(e:Sz)(F:FX):Prop:=PE X e (MD X F)
section
variable{X:Cx}{pos:Pos}
def xN{K:Q7}{H:Hp}{O:List Si}{p:Si}{ds:List D}{vs:List V}(hp:H p=none)(d:bx K (hid H O) ds vs):jg K (upd H p (.lst vs)) (p::O) p (.lst ds):=⟨_,vs,bI,rfl,d.mono (xZ hp)⟩
def M4{es:List Sz}{g:ay->R (List D)}(h:FA X es g):FN X (.List es pos) (gE g):=
 PE.weak (Fa h) λσ H Q ⟨O,ρ,E,hF⟩=>⟨O,ρ,E,(jJ.bind hF).imp λxs hF vs H1 s1 d1=>by
  obtain⟨d,e,q⟩:=jJ.rO hF;obtain⟨hz,e⟩:=cq e;subst e;refine⟨by rw[<-d1.length];exact e7 hz,λp hp=>?_⟩;exact q p _ (s1.trans (cI hp _)) (s1.free hp) ⟨_,bI,trivial⟩ (xN hp d1)⟩
def uh:FX:=λ_=>.ok (.dct [] [])
def JF:FN X (.Dict [] [] pos) uh:=PE.weak Dd λσ H Q ⟨O,ρ,E,q⟩ p hp=>q p _ (cI hp _) hp ⟨_,bI,trivial⟩ ⟨_,[],bI,dA.mpr rfl,.inr ⟨[],rfl,rfl,rfl⟩⟩
def jU(i:Nat)(f:FX):cK:=λk ρ=>su (f ρ) k ρ λd=>k.nx (ρ.set i (some (.own d)))
def wc{st:SD}{f:FX}{i:Nat}(hi:i<X.N.length)(h:PS X st (DH (MD X f) (v8 i))):FS X st (jU i f):=λHb Ob pins s σ H E I ⟨O,ρ,k,r,S,hF,hk⟩=>
 h pins s σ H E I ⟨O,ρ,S.env,jJ.on hF hk S λd e p H1 s1 hp m o=>hk.nx _ _ _ H1 (S.setNew (by rw[I.len];exact hi) s1 hp m o) e⟩
def MQ{i:Nat}{x:Str}{e:Sz}{f:FX}{pos':Pos}(hN:X.N.Nodup)(hi:X.N[i]?=some x)(hx:Loc X.env.scope x)(he:FN X e f)(hs:swapsWith e (some (.Name x pos')) pos.line X.env=pure false:=by rfl)(hf:X.fn x=true\/X.env.scope.names.lookup x=some .local:=by first|exact .inl rfl|exact .inr rfl|assumption):
  FS X (.Assign [.Name x pos'] e pos) (jU i f):=wc (List.getElem?_eq_some_iff.mp hi).1 (DM hN hi hx he hs hf)
end
def Hk{X:Cx}{F:FX}:∀σ H Q,MD X F σ H Q->Nb X F σ H Q:=λσ H Q ⟨O,ρ,E,hF⟩=>⟨O,ρ,E,hF.imp λd q D H' total acc e sm hD hD' dn=>by
 subst e;exact q D H' sm hD ⟨_,hD',trivial⟩ ⟨_,acc,hD',rfl,dn⟩⟩
def JL{X:Cx}{elt tg iter:Sz}{ifs:List Sz}{scope:Sx}{N:List Str}{ix:List (Option Nat)}{G:ay->R (List D)}{g:GF}{C:ay->R Bool}{Fe:FX}{i:Nat}{y:Str}{lpos py spos:Pos}(hN:X.N.Nodup)(hi':X.N[i]?=some y)(hx:Loc X.env.scope y)
  (hc:X.calm=true) (ok:jt X scope N ix) (tk:rT ix g) (hi:FI X tg iter G) (hb:Jz X scope N tg elt ifs g C Fe)
  (hsw:swapsWith (.ListComp elt [⟨tg,iter,ifs,0⟩] scope lpos) (some (.Name y py)) spos.line X.env=pure true:=by rfl)
  (hs:∀x,SN iter X.env x=pure x:=by intro _;rfl)
  (hf:X.fn y=true\/X.env.scope.names.lookup y=some .local:=by first|exact .inl rfl|exact .inr rfl|assumption):
  FS X (.Assign [.Name y py] (.ListComp elt [⟨tg,iter,ifs,0⟩] scope lpos) spos) (jU i (gz ix G g C Fe)):=
 wc (List.getElem?_eq_some_iff.mp hi').1 (PS.weak (Hv hN hi' hx hc ok.cell ok.kind ok.names ok.free ok.ix hi hb.k hsw hs hf) λE σ H q=>D4 tk σ H _ (Hk σ H _ q))
def N8{X:Cx}{elt tg iter:Sz}{ifs:List Sz}{scope:Sx}{pos:Pos}{N:List Str}{ix:List (Option Nat)}{G:ay->R (List D)}{g:GF}{C:ay->R Bool}{Fe:FX}(hc:X.calm=true)(ok:jt X scope N ix)(tk:rT ix g)(hi:FI X tg iter G)(hb:Jz X scope N tg elt ifs g C Fe)
  (hs:∀x,SN iter X.env x=pure x:=by intro _;rfl):FN X (.ListComp elt [⟨tg,iter,ifs,0⟩] scope pos) (gz ix G g C Fe):=
 PE.weak (Ho hc ok.cell ok.kind ok.names ok.free ok.ix hi hb.k hs) λσ H Q q=>D4 tk σ H _ (Hk σ H _ q)
def yA(i:Nat)(u:List D->List D->Option (List D))(f:ay->R (List D)):cK:=λk ρ=>match ρ[i]? with
 |some (some (.own (.lst xs)))=>su (f ρ) k ρ λds=>(rO (u xs ds)).bind λys=>k.nx (ρ.set i (some (.own (.lst ys))))
 |_=>un
def E8(K:Q7)(r:V->List V->Hp->VK->Prop)(u:List D->List D->Option (List D)):Prop:=
 ∀(H:Hp)(O:List Si)(a:Si)(xs ys as:List D)(ws vs:List V)(Q:VK),fT H O->a∈O->H a=some (.lst ws)->bx K (hid H O) xs ws->bx K (hid H O) as vs->u xs as=some ys->(∀ws' v,bx K (hid H O) ys ws'->Q v (upd H a (.lst ws')))->r (.ref a) vs H Q
def rB{K:Q7}{H:Hp}{O:List Si}{a:Si}{ys:List D}{ws:List V}(ha:a∈O)(h:bx K (hid H O) ys ws):jg K (upd H a (.lst ws)) O a (.lst ys):=⟨_,ws,bI,rfl,h.mono (nN ha)⟩
def N6{X:Cx}{i:Nat}{x m:Str}{id:String}{r:V->List V->Hp->VK->Prop}{u:List D->List D->Option (List D)}{e:Sz}{es:List Sz}{f:ay->R (List D)}{npos apos cpos pos:Pos}(slot:Slot "list" m id)(hty:typeOf (.builtin id)=pure (.type "method_descriptor"))(hm:L1 X id r)(ok:E8 X.K r u)(hx:PE X (.Name x npos) (uW i))(he:FA X (e::es) f)
  (hbase:Tt (.Name x npos) m X.env (eval (.Name x npos) X.env)=eval (.Name x npos) X.env:=by rfl)
  (hfew:((backTo cpos (SA (e::es) X.env)).all (fun x=>!x.1) && (backToKw cpos (S4 [] X.env)).all (fun x=>x.1.isSome)
   && decide ((e::es:List Sz).length+([]:List Tu).length+(if([]:List Tu).isEmpty then 0 else 1)<30))=true:=by rfl)
  (hline:(apos.endLine==cpos.line)=true:=by rfl) (hs:SA (e::es) X.env=(false,eval e X.env)::SA es X.env:=by rfl) (hplain:(backTo cpos (SA es X.env)).any (·.1)=false:=by rfl)
  (hsw:swapsWith (.Call (.Attribute (.Name x npos) m apos) (e::es) [] cpos) none pos.line X.env=pure false:=by rfl):
  FS X (.Expr (.Call (.Attribute (.Name x npos) m apos) (e::es) [] cpos) pos) (yA i u f):=λHb Ob pins s σ H E I ⟨O,ρ,k,rr,S,hF,hk⟩=>by
 unfold yA at hF;split at hF
 ·rename_i xs hxs;obtain⟨a,ha,haO,hat⟩:=S.env.own i _ hxs;obtain⟨o,vs0,ho,eo,dn⟩:=hat;subst eo;refine Bb (HA F.plainAttrs_list slot hty hm hx he hbase hfew hline hs hplain) hsw pins s σ H E I ⟨.ref a,ha,.inl ⟨rfl,vs0,o9.of ho⟩,O,ρ,S.env,jJ.on hF hk S λds hr vs H1 s1 d1=>?_⟩;have S1:=S.same s1;cases hu1:u xs ds with
  |none=>rw[hu1]at hr;exact absurd hr.symm hk.ne
  |some ys=>
   rw[hu1]at hr;exact ok H1 O a xs ys ds vs0 vs _ S1.env.all haO (s1 _ _ ho) (dn.mono (cH s1)) d1 hu1 λws' v new=>hk.nx O _ σ _ (S1.setO hxs ha trivial (rB haO new)) hr
 ·exact absurd hF.symm hk.ne
def gh(xs:List D)(ds:List D):Option (List D):=match ds with
 |[y]=>if small (xs.length+1)then some (xs++[y])else none
 |_=>none
def fu{K:Q7}:E8 K A6 gh:=λH O a xs ys as ws vs Q hO haO ha dx da hu q=>by
 unfold gh at hu;split at hu
 ·rename_i y;obtain⟨h1,h2⟩:=cq hu;subst h2;obtain⟨v,rfl,dv⟩:=da.one
  have:=e7 h1
  rw[dx.length]at this;exact⟨a,ws,v,rfl,rfl,ha,by omega,q _ _ (dx.snoc dv)⟩
 ·cases hu
def frz(i:Nat)(ρ:ay):ay:=match ρ[i]? with
 |some (some (.own d))=>setV i d ρ
 |_=>ρ
def fD.frz{K:Q7}{O:List Si}{H:Hp}{ρ:ay}{σ:St}(E:fD K O H ρ σ)(i:Nat):∃O',fD K O' H (frz i ρ) σ/\(∀b∈O',b∈O)/\∀b∈O,b∉O'->∃d,ρ[i]?=some (some (.own d))/\σ[i]?=some (some (.ref b)):=by
 unfold TG.frz;split
 ·rename_i d hd;obtain⟨a,ha,haO,hat⟩:=E.own i d hd;have sub:∀b∈O.filter (λb=>decide (b≠a)),b∈O:=λb hb=>(List.mem_filter.mp hb).1;have s:bT (hid H O) (hid H (O.filter λb=>decide (b≠a))):=jI sub;have na:a∉O.filter λb=>decide (b≠a):=λz=>absurd rfl (of_decide_eq_true (List.mem_filter.mp z).2);refine⟨O.filter λb=>decide (b≠a),⟨λj d' e=>?_,λj ys e=>?_,λj l ys zs b q1 q2 q3 q4=>?_,⟨E.all.1,λb hb=>E.all.2 b (sub b hb)⟩⟩,sub,λb hb nb=>?_⟩
  ·rcases bZ e with⟨hj,q⟩|⟨ne,q⟩
   ·cases q;rw[hj];exact⟨.ref a,ha,hat.den s na⟩
   ·obtain⟨w,q1,q2⟩:=E.val j d' q;exact⟨w,q1,q2.mono s⟩
  ·rcases bZ e with⟨_,q⟩|⟨ne,q⟩
   ·cases q
   ·obtain⟨b,q1,q2,q3⟩:=E.own j ys q;have nb:b≠a:=λz=>ne (E.one j i ys d a q hd (by rw[<-z];exact q1) ha);exact⟨b,q1,List.mem_filter.mpr ⟨q2,decide_eq_true nb⟩,q3.mono rfl s⟩
  ·rcases bZ q1 with⟨_,q⟩|⟨_,q⟩
   ·cases q
   ·rcases bZ q2 with⟨_,q'⟩|⟨_,q'⟩
    ·cases q'
    ·exact E.one j l ys zs b q q' q3 q4
  ·by_cases z:b=a
   ·exact⟨d,hd,by rw[z];exact ha⟩
   ·exact absurd (List.mem_filter.mpr ⟨hb,decide_eq_true z⟩) nb
 ·exact⟨O,E,λ_ z=>z,λb hb nb=>absurd hb nb⟩
def ip.frz{K:Q7}{Hb:Hp}{Ob O:List Si}{H:Hp}{ρ:ay}{σ:St}(E:ip K Hb Ob O H ρ σ)(i:Nat):∃O',ip K Hb Ob O' H (frz i ρ) σ:=by
 obtain⟨O',E',sub,gone⟩:=E.env.frz i;refine⟨O',E',⟨E.base.same,λa ha=>?_,λa ha=>E.base.new a (sub a ha)⟩,λj xs a q1 q2=>?_,λj dn q1=>?_⟩
 ·by_cases z:a∈O'
  ·exact z
  ·obtain⟨d,e1,e2⟩:=gone a (E.base.sub a ha) z;exact absurd ha (E.mine i d a e1 e2).2
 ·have q:ρ[j]?=some (some (.own xs)):=by
   unfold TG.frz at q1;split at q1
   ·rcases bZ q1 with⟨_,q⟩|⟨_,q⟩
    ·cases q
    ·exact q
   ·exact q1
  exact E.mine j xs a q q2
 ·have bk:∀(l:Nat) x,(TG.frz i ρ)[l]?=some (some x)->(∀d,x≠.val d)->ρ[l]?=some (some x):=λl x e nv=>by
   unfold TG.frz at e;split at e
   ·rcases bZ e with⟨_,q⟩|⟨_,q⟩
    ·cases q;exact absurd rfl (nv _)
    ·exact q
   ·exact e
  refine(E.nst j dn (bk j _ q1 (λ_ z=>nomatch z))).to rfl (jI sub) (λb w1 w2 w3 w4 _=>⟨rfl,?_,w2,λl d1 w=>w4 l d1 (bk l _ w (λ_ z=>nomatch z))⟩) λl d1 w=>⟨d1,bk l _ w (λ_ z=>nomatch z)⟩
  by_cases z:b∈O'
  ·exact z
  ·obtain⟨d,e1,e2⟩:=gone b w1 z;exact absurd e2 (w4 i d e1)
def fY(i:Nat)(F:cK):cK:=λk ρ=>F k (frz i ρ)
def Lw{X:Cx}{st:List SD}{F:cK}(i:Nat)(h:Bi X st F):Bi X st (fY i F):=λHb Ob=>xS.weak (h Hb Ob) λE σ H ⟨O,ρ,k,r,S,hF,hk⟩=>by
 obtain⟨O',S'⟩:=S.frz i;exact⟨O',TG.frz i ρ,k,r,S',hF,hk⟩
def frzs(is:List Nat)(ρ:ay):ay:=is.foldl (λρ i=>frz i ρ) ρ
def fD.frzs{K:Q7}{H:Hp}{σ:St}:∀(is:List Nat){O:List Si}{ρ:ay},fD K O H ρ σ->∃O',fD K O' H (frzs is ρ) σ
 |[],O,_,E=>⟨O,E⟩
 |i::is,_,_,E=>by
  obtain⟨O',E',_⟩:=E.frz i;exact fD.frzs is E'
def nH(is:List Nat)(f:ay->R Bool):ay->R Bool:=λρ=>FV (f (frzs is ρ))
def L6{X:Cx}{e:Sz}{f:ay->R Bool}(is:List Nat)(h:FT X e f):FT X e (nH is f):=PT.weak h λσ H Q ⟨O,ρ,E,hF⟩=>by
 obtain⟨O',E'⟩:=E.frzs is;refine⟨O',TG.frzs is ρ,E',?_⟩;unfold nH at hF;cases hf:f (TG.frzs is ρ)with
 |error z=>rw[hf]at hF;exact hF.elim
 |ok d=>rw[hf]at hF;exact hF
end TG
namespace TG
open PySem PySem.Spec L2
variable[bh]
def C2(K:Q7)(n:Nat)(g:List D->R D):Sp:=λvs H Q E=>∃O ds,vs.length=n/\fT H O/\bx K (hid H O) ds vs/\match g ds with
 |.ok d=>∀v H',bT H H'->dD K (hid H' O) d v->Q v H'
 |.error (some x)=>MO K H O x E
 |.error none=>False
section
variable{X:Cx}{k:Nat}{f C:Si}{fd:S7}{ps:List Str}{sp:Sp}{x m:Str}{p pos apos:Pos}{e o:Sz}{es:List Sz}{ta:TE}{t:TA}
def Au{pins:List (Si×Obj)}{σ:St}{H:Hp}{s:Sw}{Q:VK}{E:XK}{us:List Se}{vs:List V}(F:jV X.prog X.w X.K X.mg X.base (oN X.prog X.w) k f fd ps sp)(hr:gP k X.A)(hb:Binds X.K fd ps [])(hx:mZ (oN X.prog X.w) X σ E)
  (I:Inv X pins σ H s) (r:Vals vs us) (h:sp vs H Q E):Sy (model X.prog X.w) X.A (call (.ref f) us) (EP X pins σ Q) X.xe s:=by
 have hl:(us++[]).length=ps.length:=by rw[O5,<-r.length];exact F.len _ _ _ _ h
 have hb':=hb s us I.kIn hl;rw[O5]at hb';refine S9 (Ta (F.run X.A X.stack s H ⟨us,[]⟩ us vs Q E hr I.env0 hb' r h) λr s' hq=>?_);cases r with
 |error e=>exact hx pins H s e s' I hq
 |ok fl=>
  cases fl with
  |ret u=>exact I.after hq
  |next=>exact False.elim hq
  |brk=>exact False.elim hq
  |cont=>exact False.elim hq
def Dv(X:Cx)(sp:Sp)(t:TA):TE:=λσ H Q=>t σ H λvs H1=>∃E,mZ (oN X.prog X.w) X σ E/\sp vs H1 Q E
def Eh(F:jV X.prog X.w X.K X.mg X.base (oN X.prog X.w) k f fd ps sp)(hr:gP k X.A)(hg:Gl X x)(hm:X.mg x=some (.ref f))(hk:Rq X.K (.ref f)=true)(hb:Binds X.K fd ps [])
  (ha:PA X (e::es) t) (hdb:(x==("__debug__":Str))=false:=by decide) (he:SA (e::es) X.env=(false,eval e X.env)::SA es X.env:=by rfl) (hpl:(backTo pos (SA es X.env)).any (·.1)=false:=by rfl):
  PE X (.Call (.Name x p) (e::es) [] pos) (Dv X sp t):=by
 intro pins s σ H Q I h;refine Tc (wK I hg hm ?_ hdb);refine Rr (h₀:=X.base) I.ok.mod.kin hk (eZ (ha pos pins s σ H _ I h) λus s1 ⟨vs,H1,I1,r,E,hx,q⟩=>⟨I1.kIn,?_⟩) he hpl;exact Au F hr hb hx I1 r q
def BP{n:Nat}{g:List D->R D}{f:ay->R (List D)}(hn:∀ds,g ds≠un->ds.length=n):∀σ H Q,tF X (fR g f) σ H Q->Dv X (C2 X.K n g) (Nm X f) σ H Q:=λσ H Q ⟨O,ρ,E,hF⟩=>
 ⟨O,ρ,E,(jJ.bind hF).imp fun ds hF vs H1 s1 d1=>by
  cases hg:g ds with
  |ok d=>
   rw[hg]at hF;refine⟨E0,AC,O,ds,by rw[<-d1.length];exact hn ds (by rw[hg];intro z;cases z),E.all.same s1,d1,?_⟩;rw[hg];exact λv H2 s2 d2=>hF v H2 (s1.trans s2) d2
  |error z=>
   rw[hg]at hF;cases z with
   |none=>exact hF.elim
   |some x=>
    refine⟨AY X O H1 x,Bj (JC.mono hF s1),O,ds,by rw[<-d1.length];exact hn ds (by rw[hg];intro z;cases z),E.all.same s1,d1,?_⟩;rw[hg];exact yk⟩
end
def Callee(P:Sg)(w:Sf)(K:Q7)(mg:Str->Option Se)(base:Sl)(k:Nat)(x:Str)(ps:List Str)(g:List D->R D):Prop:=
 ∃f fd,jV P w K mg base (oN P w) k f fd ps (C2 K ps.length g)/\Binds K fd ps []/\Rq K (.ref f)=true/\mg x=some (.ref f)
def Ar(n:Nat)(g:List D->R D):Prop:=∀ds,g ds≠un->ds.length=n
def JD{X:Cx}{k k':Nat}{ps:List Str}{g:List D->R D}{h:ay->R (List D)}{x:Str}{p pos:Pos}{e:Sz}{es:List Sz}
  (C:Callee X.prog X.w X.K X.mg X.base k x ps g) (hn:Ar ps.length g) (hr:gP k' X.A) (hk:k<=k') (ha:FA X (e::es) h) (hg:Gl X x:=by rfl)
  (hdb:(x==("__debug__":Str))=false:=by decide) (hns:(e::es).all noStar=true:=by rfl):
  FE X (.Call (.Name x p) (e::es) [] pos) (fR g h):=by
 obtain⟨f,fd,F,b,kp,m⟩:=C;exact PE.weak (Eh F (hr.mono hk) hg m kp b ha hdb (fN (Pn _ _ ▸ hns).1) (jd (Pn _ _ ▸ hns).2)) (BP hn)
def K0:Ks:={nx:=λ_=>.ok .non}
def env0(n:Nat)(ds:List D):ay:=ds.map (λd=>some (.val d))++List.replicate (n-ds.length) none
def aN(B:cK)(np n:Nat):List D->R D:=λds=>if ds.length=np then B K0 (env0 n ds)else un
def aK{B:cK}{np n:Nat}:Ar np (aN B np n):=λds h=>by
 unfold aN at h;split at h
 ·assumption
 ·exact absurd rfl h
def jQ{n:Nat}{ds:List D}(i:Nat)(x:S)(e:(env0 n ds)[i]?=some (some x)):∃d,ds[i]?=some d/\x=.val d:=by
 unfold env0 at e;by_cases hi:i<ds.length
 ·rw[Pb (by rw[O0];exact hi),Ph,PX hi]at e;have e':some (S.val ds[i])=some x:=Option.some.inj e;exact⟨ds[i],by rw[PX hi],(Option.some.inj e').symm⟩
 ·rw[O9 (by rw[O0];omega),O0,Pa]at e;split at e
  ·cases e
  ·cases e
def uz{K:Q7}{O:List Si}{H:Hp}{N:List Str}{ds:List D}{vs:List V}(hO:fT H O)(h:bx K (hid H O) ds vs):fD K O H (env0 N.length ds) (L2.start N vs):=by
 refine⟨λi d e=>?_,λi xs e=>?_,λi j xs ys a e=>?_,hO⟩
 ·obtain⟨d',e1,e2⟩:=jQ i _ e;cases e2;obtain⟨v,e3,e4⟩:=h.get e1;refine⟨v,?_,e4⟩;unfold L2.start;have hi:i<vs.length:=(List.getElem?_eq_some_iff.mp e3).1;rw[Pb (by rw[O0];exact hi),Ph,e3];rfl
 ·obtain⟨d',_,e2⟩:=jQ i _ e;cases e2
 ·obtain⟨d',_,e2⟩:=jQ i _ e;cases e2
section
variable{P:Sg}{w:Sf}{K:Q7}{mg:Str->Option Se}{base:Sl}
structure BodyOk(P:Sg)(w:Sf)(K:Q7)(mg:Str->Option Se)(base:Sl)(k:Nat)(N:List Str)(qual:Str)(st:SD)(f:Si)(B:cK):Prop where
 h:∀(cdv:Se)(A:Sv)(outer:List Env)(s:Sw)(H:Hp)(E:XK),gP k (A.deeper (RW qual (aA st) s.heap.objs.size f cdv))->SM (model P w) (A.deeper (RW qual (aA st) s.heap.objs.size f cdv)) (RW qual (aA st) s.heap.objs.size f cdv) (kC (oN P w) P w K mg base N qual (aA st) f cdv A outer s H E).xe->
  Bi (kC (oN P w) P w K mg base N qual (aA st) f cdv A outer s H E) (gr st) B
def Mr{x qual:Str}{st:SD}{f:Si}{fd:S7}{N ps:List Str}{k:Nat}{sp:Sp}{CX:zF}(F:uG K x qual st f fd)(S:aX N ps (aA st))(len:∀vs H Q E,sp vs H Q E->vs.length=ps.length)
  (hbody:∀ (cdv:Se) (A:Sv) (outer:List Env) (s:Sw) (H:Hp) (vs:List V) (Q:VK) (E:XK),gP k (A.deeper (RW qual (aA st) s.heap.objs.size f cdv))->sp vs H Q E ->
   ∃t,xS (kC CX P w K mg base N qual (aA st) f cdv A outer s H E) (gr st) t/\t {nx:=λ_ H'=>Q .non H',rt:=Q} (L2.start N vs) H):jV P w K mg base CX (k+1) f fd ps sp:=by
 obtain⟨oc,od,kV,doc,pm,an,cdv,ct,osl,rfl,lk,hcd⟩:=F.ex;exact Di lk hcd S len λA outer s H vs Q E hr hsp=>hbody cdv A outer s H vs Q E hr hsp
def jV.any{CX:zF}{k:Nat}{f:Si}{fd:S7}{ps:List Str}{sp:Sp}(F:jV P w K mg base LY k f fd ps sp):jV P w K mg base CX k f fd ps sp:=
 ⟨F.len,fun A outer s H args us vs Q E hr he hb hv hs=>Ta (F.run A outer s H args us vs Q E hr he hb hv hs) fun r s' h=>by
  cases r with
  |error e=>exact False.elim h
  |ok fl=>cases fl<;>exact h⟩
def ww{x qual:Str}{st:SD}{f:Si}{fd:S7}{N ps:List Str}{k:Nat}{B:cK}(F:uG K x qual st f fd)(SC:aX N ps (aA st))(hb:BodyOk P w K mg base k N qual st f B):
  jV P w K mg base (oN P w) (k+1) f fd ps (C2 K ps.length (aN B ps.length N.length)):=by
 refine Mr F SC (λvs H Q E h=>?_) λcdv A outer s H vs Q E hr h=>?_
 ·obtain⟨O,ds,h1,_⟩:=h;exact h1
 ·obtain⟨O,ds,h1,h2,h3,h4⟩:=h;have hl:ds.length=ps.length:=h3.length.trans h1;have e4:aN B ps.length N.length ds=B K0 (env0 N.length ds):=by unfold aN;rw[if_pos hl]
  rw[e4]at h4;refine⟨_,hb.h cdv A outer s H E hr PassesOwn.leaving H O,O,env0 N.length ds,K0,_,⟨uz h2 h3,⟨bT.refl H,λ_ z=>z,λa z=>.inl z⟩,λi xs a e=>?_,λi d e=>by obtain⟨d',_,e2⟩:=jQ i _ e;cases e2⟩,rfl,?_⟩
  ·obtain⟨d',_,e2⟩:=jQ i _ e;cases e2
  ·generalize B K0 (env0 N.length ds)=r at h4;refine⟨λz=>by rw[z]at h4;exact h4,λO' ρ' σ' H' S e=>?_,λO' ρ' σ' H' S e=>?_,λO' ρ' σ' H' S e=>?_,λd O' v H' e b dv=>?_,λO' ρ' σ' H' x S e=>?_⟩
   ·have e:(.ok .non:R D)=r:=e;subst e;exact h4 .non H' S.base.same (md.mpr rfl)
   ·have e:(un:R D)=r:=e;subst e;exact h4.elim
   ·have e:(un:R D)=r:=e;subst e;exact h4.elim
   ·subst e;exact h4 v H' b.same (dv.mono (jI b.sub))
   ·have e:(.error (some x):R D)=r:=e;subst e;exact C6 h4 S.base.same S.base.sub
def aY{x qual:Str}{st:SD}{f:Si}{fd:S7}{N ps:List Str}{k:Nat}{B:cK}(F:uG K x qual st f fd)(b:Binds K fd ps [])(m:mg x=some (.ref f))(SC:aX N ps (aA st))(hb:BodyOk P w K mg base k N qual st f B):
  Callee P w K mg base (k+1) x ps (aN B ps.length N.length):=⟨f,fd,ww F SC hb,b,F.kp,m⟩
def dX{x qual:Str}{st:SD}{f:Si}{fd:S7}{ps:List Str}(k:Nat)(F:uG K x qual st f fd)(b:Binds K fd ps [])(m:mg x=some (.ref f)):Callee P w K mg base k x ps (λ_=>un):=by
 have no:∀vs H Q E,¬C2 K ps.length (λ_=>un) vs H Q E:=λvs H Q E ⟨O,ds,_,_,_,e⟩=>e;exact⟨f,fd,⟨λvs H Q E h=>absurd h (no vs H Q E),λA outer s H args us vs Q E _ _ _ _ h=>absurd h (no vs H Q E)⟩,b,F.kp,m⟩
end
def sC{K:Q7}{T:String}(h1:Rx K (.type "NoneType") (.type T)=some (T=="NoneType"))(h2:Rx K (.type "bool") (.type T)=some (T=="bool"||T=="int"))(h3:Rx K (.type "int") (.type T)=some (T=="int"))(h4:Rx K (.type "str") (.type T)=some (T=="str"))
  (h5:Rx K (.type "tuple") (.type T)=some (T=="tuple")) (h6:Rx K (.type "list") (.type T)=some (T=="list")):yp K T:=λd hd=>by
 cases d with
 |dct _ _=>cases hd
 |obj _ _ _=>cases hd
 |exc _ _ _=>cases hd
 |non=>exact h1
 |bl _=>exact h2
 |int _=>exact h3
 |str _=>exact h4
 |tup _=>exact h5
 |lst _=>exact h6
def tW{K:Q7}:yp K "int":=sC rfl rfl rfl rfl rfl rfl
def lA{K:Q7}:yp K "bool":=sC rfl rfl rfl rfl rfl rfl
def ug{K:Q7}:yp K "str":=sC rfl rfl rfl rfl rfl rfl
def o4{K:Q7}:yp K "tuple":=sC rfl rfl rfl rfl rfl rfl
end TG
namespace TG
open PySem PySem.Spec L2
variable[bh]
section
variable{X:Cx}{a b c:Sz}{fa fb fc:FX}{pos:Pos}
def Iy{r:V->Hp->VK->Prop}{g:D->Option D}(s:FY X.K r g):∀σ H Q,tF X (f1 g fa) σ H Q->N0 r (tF X fa) σ H Q:=λσ H Q ⟨O,ρ,E,hF⟩=>⟨O,ρ,E,(jJ.bind hF).imp λa hF x H1 s1 d1=>by
 obtain⟨d,e,q⟩:=jJ.rO hF;exact s a d x O H1 Q (E.all.same s1) e d1 λv H2 s2 d2=>q v H2 (s1.trans s2) d2⟩
def sP(g g':D->D->Option D)(fa fb fc:FX):FX:=λρ=>(fa ρ).bind λx=>(fb ρ).bind λy=>(rO (g x y)).bind λz=>zV z ((fc ρ).bind λw=>rO (g' y w))
def BO{r r':R2}{g g':D->D->Option D}(s:dE X.K r g)(s':dE X.K r' g'):∀σ H Q,tF X (sP g g' fa fb fc) σ H Q->Fb r r' (tF X fa) (tF X fb) (tF X fc) σ H Q:=λσ H Q ⟨O,ρ,E,hF⟩=>
 ⟨O,ρ,E,(jJ.bind hF).imp fun x hF v1 H1 s1 d1=>⟨O,ρ,E.same s1,((jJ.bind hF).mono s1).imp fun y hF v2 H2 s2 d2=>by
  obtain⟨z,e3,hF⟩:=jJ.rO (jJ.bind hF);refine s x y z v1 v2 O H2 _ (E.all.same (s1.trans s2)) e3 (d1.mono (cH s2)) d2 λv3 H3 s3 d3=>?_;cases z with
  |bl k=>
   refine⟨k,lM.mp d3,?_⟩;cases k with
   |false=>exact zE (hF _ H3 ((s1.trans s2).trans s3) (lM.mpr rfl))
   |true=>
    refine zp ⟨O,ρ,E.same ((s1.trans s2).trans s3),((jJ.bind (show jJ X σ O H ((fc ρ).bind λw=>rO (g' y w)) _ from hF)).mono ((s1.trans s2).trans s3)).imp λw hF v4 H4 s4 d4=>?_⟩;obtain⟨d,e5,q⟩:=jJ.rO hF;exact s' y w d v2 v4 O H4 Q (E.all.same (((s1.trans s2).trans s3).trans s4)) e5 (d2.mono (cH (s3.trans s4))) d4 λv5 H5 s5 d5=>q v5 H5 ((((s1.trans s2).trans s3).trans s4).trans s5) d5
  |_=>exact hF.elim⟩⟩
def Kb{op op':SW}{r r':R2}{g g':D->D->Option D}(ho:kA X (SV op) r)(s:dE X.K r g)(ho':kA X (SV op') r')(s':dE X.K r' g')(ha:FE X a fa)(hb:FE X b fb)(hc:FE X c fc)
  (hm:lastMarks [op,op'] [b,c]=false:=by with_unfolding_all rfl):FE X (.Compare a [op,op'] [b,c] pos) (sP g g' fa fb fc):=PE.weak (DQ ho ho' ha hb hc hm) (BO s s')
def Jk:D->Option D
 |.int i=>some (.int (-i))
 |_=>none
def uQ(f:FX):FX:=f1 Jk f
def Mb(ha:FE X a fa):FE X (.UnaryOp .USub a pos) (uQ fa):=PE.weak (K5 Jm ha) (Iy λx d v O H Q _ e dv q=>by
 cases x with
 |int i=>cases e;exact⟨i,gG.mp dv,q _ H (bT.refl H) (gG.mpr rfl)⟩
 |_=>cases e)
def Oh:List D->Option D
 |[.int i]=>if decide (i.natAbs.log2<1920)then some (.str (toString i))else none
 |_=>none
def DK:D->Option D
 |.str x=>if small x.length then some (.str (Txt.upper x))else none
 |_=>none
def IL(f:FX):FX:=f1 DK f
def Iw:D->Option D
 |.lst xs=>some (.lst xs.reverse)
 |.tup xs=>some (.tup xs.reverse)
 |_=>none
def Nr(f:FX):FX:=f1 Iw f
def allB:List D->Option Bool
 |[]=>some true
 |.bl b::r=>(allB r).bind λc=>some (b&&c)
 |_=>none
def Ac:List D->Option D
 |[.lst xs]=>(allB xs).bind λb=>some (.bl b)
 |_=>none
def xV:∀{xs:List D}{b:Bool},allB xs=some b->∃bs:List Bool,xs=bs.map .bl/\b=bs.all id
 |[],b,h=>by cases h;exact⟨[],rfl,rfl⟩
 |.bl x::r,b,h=>by
  obtain⟨c,e1,e2⟩:=bind_some (show((allB r).bind λc=>some (x&&c))=some b from h);cases e2;obtain⟨bs,e3,e4⟩:=xV e1;exact⟨x::bs,by rw[OZ,e3],by rw[PQ,e4];rfl⟩
 |.non::_,_,h=>by cases h
 |.int _::_,_,h=>by cases h
 |.str _::_,_,h=>by cases h
 |.tup _::_,_,h=>by cases h
 |.lst _::_,_,h=>by cases h
 |.dct _ _::_,_,h=>by cases h
 |.obj _ _ _::_,_,h=>by cases h
 |.exc _ _ _::_,_,h=>by cases h
def uB{K:Q7}{H:Hp}:∀{bs:List Bool}{vs:List V}{us:List Se},bx K H (bs.map .bl) vs->Vals vs us->us=bs.map Value.bool
 |[],vs,us,h,r=>by
  rw[Pt,dA]at h;subst h;cases r;rfl
 |b::bs,vs,us,h,r=>by
  rw[OZ,bP]at h;obtain⟨v,r',e,h1,h2⟩:=h;subst e;cases r with
  |cons q1 q2=>
   rw[lM]at h1;subst h1;cases q1;rw[OZ,uB h2 q2]
def range_all(bs:List Bool):((List.range bs.length).all λi=>(bs[i]?).getD true)=bs.all id:=by
 induction bs with
 |nil=>rfl
 |cons b bs ih=>
  rw[OY,PR,PQ,PV,PQ,<-ih];rfl
def qL(hc:X.calm=true):eR X (.builtin "all") (yP X.K Ac):=by
 intro pins s σ H xs us Q I r ⟨O,ds,d,hO,hd,hg,q⟩;unfold Ac at hg;split at hg
 ·rename_i ys;obtain⟨bv,e1,e2⟩:=bind_some hg;cases e2;obtain⟨bs,eb,ev⟩:=xV e1;subst eb ev;obtain⟨v,evv,h1⟩:=hd.one;subst evv;obtain⟨p,vs,ep,g1,g2⟩:=cX.mp h1;subst ep;obtain⟨u,eu,ru⟩:=vals1 r;subst eu;cases ru;obtain⟨its,rv,pl,hz⟩:=I.list ((aU H O).seq g1);have ei:=uB g2 rv;have hl:=pl.isList;have hlt:p<s.heap.objs.size:=by obtain⟨_,e,_⟩:=hl;exact RH e
  refine call_all_walk (SL hl ?_);refine⟨s.heap.objs.size,[s.heap.objs.size,p],[s.heap.objs.size],its.toArray.size,_,_,λi=>(bs[i]?).getD true,rfl,Walks.list (A:=X.A.in1) (I.ok.hd hc) _ p (OD hlt) its.toArray,
   ⟨⟨_,RM _ rfl,rfl,rfl⟩,hl.push _⟩,λi v s' Q' E' hP hQ=>?_,λh' tk hk=>?_⟩
  ·have e:bs[i]?.map Value.bool=some v:=by
    rw[<-Ph,<-ei]
    simpa using hP
   cases eb:bs[i]? with
   |none=>rw[eb]at e;cases e
   |some b=>
    rw[eb]at e;cases e;simp only[eb,Option.getD_some]at hQ;exact SG hQ
  ·have e:((List.range its.toArray.size).all λi=>(bs[i]?).getD true)=bs.all id:=by
    have:its.toArray.size=bs.length:=(by rw[OW,ei,O0]);rw[this];exact range_all bs
   rw[e];have k:∀b x,s.heap.get? b=some x->h'.get? b=some x:=λb x e=>hk b x (λhm=>by rw[List.mem_singleton.mp hm]at e;exact OC _ (RH e)) (RL _ e);exact⟨.bl _,H,I.kept k,rfl,q _ H (bT.refl H) (lM.mpr rfl)⟩
 ·cases hg
end
end TG
namespace ZI
open PySem PySem.Spec PyProof.Rows
section
variable{prog:Sg}{w:Sf}{A:Sv}{E:Se->Sw->Prop}{s:Sw}
def zW{it t:Si}{i:Nat}{its:Array Se}{x:Se}{Q:Se->Sw->Prop}(hit:s.heap.IsTupleIter it t i)(ht:s.heap.IsTuple t its)(hx:its[i]?=some x)
  (hQ:∀g,g.IsTupleIter it t (i+1)->RK it s.heap g->Q x {s with heap:=g}):Sy (model prog w) A (Builtin.SmallTypes.nextOf (.ref it)) Q E s:=by
 obtain⟨ob,h1,h2,h3⟩:=id hit;obtain⟨ol,g1,_,n,g2⟩:=ht;unfold Builtin.SmallTypes.nextOf;refine SK (Tn (name:=Str.ofString "__next__") hit.typeIs F.slot_tuple_iterator_next (To F.slot_tuple_iterator_next hit.typeIs F.entry_tuple_iterator_next ?_ (F.args_tuple_iterator_next_1 _)));show Sy _ _ (field (.ref it) 0 >>= _) _ _ s;refine SK (Tj h1 h3 (x:=.ref t) rfl ?_);show Sy _ _ (if(Value.ref t==Value.none)=true then _ else _) _ _ s;rw[if_neg (show¬((Value.ref t==Value.none)=true)from λz=>OX z)];show Sy _ _ (field (.ref it) 1 >>= _) _ _ s;refine SK (Tj h1 h3 (x:=.int i 0) rfl ?_);show Sy _ _ (seqItems? (.ref t) >>= _) _ _ s;refine SK (TF g1 g2 ?_);simp only[Pl,hx];refine SK (TH h1 h3 (by simp) (SJ ⟨x,rfl,SJ (hQ _ ⟨_,RO _ h1 (Obj.isFreed_of_fields (Obj.data_mapFields h3 _)),(Obj.cls_mapFields ..).trans h2,by rw[Obj.data_mapFields h3];simp[rawInt]⟩ (Heap.SameBut.update ..))⟩))
def CQ{it t:Si}{i:Nat}{its:Array Se}{Q:Se->Sw->Prop}(hh:A.handled=none)(hit:s.heap.IsTupleIter it t i)(ht:s.heap.IsTuple t its)(hx:its[i]?=none)
  (hE:∀g e,Heap.ExtBut it s.heap g->(∃o,g.get? e=some o/\o.cls=.type "StopIteration")->E (.ref e) {s with heap:=g}):Sy (model prog w) A (Builtin.SmallTypes.nextOf (.ref it)) Q E s:=by
 obtain⟨ob,h1,h2,h3⟩:=id hit;obtain⟨ol,g1,_,n,g2⟩:=ht;unfold Builtin.SmallTypes.nextOf;refine SK (Tn (name:=Str.ofString "__next__") hit.typeIs F.slot_tuple_iterator_next (To F.slot_tuple_iterator_next hit.typeIs F.entry_tuple_iterator_next ?_ (F.args_tuple_iterator_next_1 _)));show Sy _ _ (field (.ref it) 0 >>= _) _ _ s;refine SK (Tj h1 h3 (x:=.ref t) rfl ?_);show Sy _ _ (if(Value.ref t==Value.none)=true then _ else _) _ _ s;rw[if_neg (show¬((Value.ref t==Value.none)=true)from λz=>OX z)];show Sy _ _ (field (.ref it) 1 >>= _) _ _ s;refine SK (Tj h1 h3 (x:=.int i 0) rfl ?_);show Sy _ _ (seqItems? (.ref t) >>= _) _ _ s;refine SK (TF g1 g2 ?_);simp only[Pl,hx];refine SK (Tz (SK (TH h1 h3 (by simp) ?_)));show Sy _ _ (newExc (.type "StopIteration") [] >>= _) _ _ _;refine SK ?_;simp only[newExc,newTuple];refine SK (Tq ?_ (by size_fits));refine SK (m:=firstArgMember _ _) (wpAny_of_eq (a:=Value.none) (by first|rfl|(simp only[firstArgMember];rfl)) ?_);refine Tq ?_ (by size_fits);simp only[raiseNew];refine SK (wpAny_handled ?_)
 first|rw[show A.in1.handled=none from hh]|rw[hh]
 refine SK (SJ (wpAny_throw ?_));exact hE _ _ (((Heap.SameBut.update ..).extBut.push _).push _) ⟨_,RM _ rfl,rfl⟩
end
def IP{prog:Sg}{w:Sf}{A:Sv}(hh:A.handled=none)(it t:Si)(hne:t≠it)(its:Array Se):Draws prog w A it [it,t] its.size (λi v=>its[i]?=some v) (λi h=>h.IsTupleIter it t i/\h.IsTuple t its)where
 live:=λi h ⟨⟨o,e,_⟩,_⟩=>⟨o,e⟩
 frame:=λi h h' ⟨x,y⟩ k=>⟨x.at λo e=>k it (by simp) o e,let ⟨o,e,r⟩:=y;⟨o,k t (by simp) o e,r⟩⟩
 item:=λi s Q E hi ⟨x,y⟩ hQ=>zW x y (Array.getElem?_eq_getElem hi) λg hg hs=>hQ _ g s.toks (Array.getElem?_eq_getElem hi) ⟨hg,let ⟨o,e,r⟩:=y;⟨o,(hs.2 t hne).trans e,r⟩⟩ hs
 done:=λs Q E ⟨x,y⟩ hE=>CQ hh x y (by simp) hE
structure Apart(z TI TO i1 i2:Si)(fp1 fp2:List Si):Prop where
 a1:TI≠z
 a2:TO≠z
 a3:TI≠TO
 b1:z∉fp1
 b2:TO∉fp1
 b3:i2∉fp1
 c1:z∉fp2
 c2:TO∉fp2
 c3:i1∉fp2
 d1:TI≠i1
 d2:TI≠i2
 e1:i1∈fp1
 e2:i2∈fp2
section
variable{prog:Sg}{w:Sf}{A:Sv}{E:Se->Sw->Prop}{s:Sw}{z TI TO i1 i2:Si}{fp1 fp2:List Si}{n1 n2 i:Nat}{P1 P2:Nat->Se->Prop}{S1 S2:Nat->Sl->Prop}{a b:Se}
def next_item{Q:Se->Sw->Prop}(Ap:Apart z TI TO i1 i2 fp1 fp2)(D1:Draws prog w A i1 fp1 n1 P1 S1)(D2:Draws prog w A i2 fp2 n2 P2 S2)(hz:TJ s.heap z TI TO .none)(hTI:TK s.heap TI (.ref i1) (.ref i2))(hTO:TK s.heap TO a b)(st1:S1 i s.heap)(st2:S2 i s.heap)(l1:i<n1)(l2:i<n2)
  (hQ:∀ x y g tk,P1 i x->P2 i y->TJ g z TI TO (rawInt s.heap.objs.size)->TK g TO x y->S1 (i+1) g->S2 (i+1) g->TK g s.heap.objs.size x y->g.objs.size=s.heap.objs.size+1 ->
   (∀c o,c≠z->c≠TO->c≠i1->c≠i2->s.heap.get? c=some o->g.get? c=some o)->Q (.ref s.heap.objs.size) {s with heap:=g,toks:=tk}):
  Sy (model prog w) A (Builtin.«zip.__next__» ⟨[.ref z],[]⟩) (λfin s'=>∃v,fin=.done (.ret v)/\Q v s') E s:=by
 have n1z:i1≠z:=λe=>Ap.b1 (e ▸ Ap.e1);have n2z:i2≠z:=λe=>Ap.c1 (e ▸ Ap.e2);have n1T:i1≠TO:=λe=>Ap.b2 (e ▸ Ap.e1);have n2T:i2≠TO:=λe=>Ap.c2 (e ▸ Ap.e2);show Sy _ _ (field (.ref z) 2 >>= _) _ _ _;refine SK (Tj hz rfl (x:=.bool false) rfl ?_);show Sy _ _ (field (.ref z) 3 >>= _) _ _ _;refine SK (Tj hz rfl (x:=.ref TI) rfl ?_);refine SK (TF hTI rfl ?_);show Sy _ _ (Builtin.SmallTypes.ownedTupleIsFree (.ref z) >>= _) _ _ _;refine SK ?_;unfold Builtin.SmallTypes.ownedTupleIsFree;refine SK (Tj hz rfl (x:=.none) rfl (SJ ?_));simp only[if_true];refine SK (Tz ?_);refine SK (Tj hz rfl (x:=.ref TO) rfl ?_);refine SK (TL hz (by simp) λg1 hz1 k1=>?_);have hz1:TJ g1 z TI TO .ellipsis:=hz1;refine SK ?_;simp only[Qf,List.zipIdx_nil,PD,List.forIn_nil];refine SK (SK (TN ?_));show Sy _ _ (Builtin.SmallTypes.nextOf (.ref i1) >>= _) _ _ _;have q1:S1 i g1:=D1.frame _ _ _ st1 λb hb o e=>k1.extBut _ _ (λz'=>Ap.b1 (z' ▸ hb)) e;refine SK (D1.item i {s with heap:=g1} _ _ l1 q1 λx g2 tk2 p1 q2 k2=>SJ ?_);have t2:TK g2 TO a b:=k2.extBut _ _ n1T.symm (k1.extBut _ _ Ap.a2 hTO);refine SK (TF t2 rfl ?_);refine SK (TQ t2 λg3 t3 k3=>?_);have t3:TK g3 TO x b:=t3;refine SK (TR (SJ ?_));refine SK (SK (TN ?_));show Sy _ _ (Builtin.SmallTypes.nextOf (.ref i2) >>= _) _ _ _;have q3:S2 i g3:=D2.frame _ _ _ st2 λb hb o e=>k3.extBut _ _ (λz'=>Ap.c2 (z' ▸ hb)) (k2.extBut _ _ (λz'=>Ap.c3 (z' ▸ hb)) (k1.extBut _ _ (λz'=>Ap.c1 (z' ▸ hb)) e));refine SK (D2.item i {s with heap:=g3,toks:=tk2} _ _ l2 q3 λy g4 tk4 p2 q4 k4=>SJ ?_);have t4:TK g4 TO x b:=k4.extBut _ _ n2T.symm t3;refine SK (TF t4 rfl ?_);refine SK (TQ t4 λg5 t5 k5=>?_);have t5:TK g5 TO x y:=t5;refine SK (TR (SJ (SJ ?_)));refine SK (TF t5 rfl ?_);refine SK (TU ?_);have hsz:g5.objs.size=s.heap.objs.size:=by rw[k5.1,k4.1,k3.1,k2.1,k1.1]
 have hz5:TJ g5 z TI TO .ellipsis:=k5.extBut _ _ Ap.a2.symm (k4.extBut _ _ n2z.symm (k3.extBut _ _ Ap.a2.symm (k2.extBut _ _ n1z.symm hz1)));have k15:∀c o,c≠z->c≠TO->c≠i1->c≠i2->s.heap.get? c=some o->g5.get? c=some o:=λc o c1 c2 c3 c4 e=>k5.extBut _ _ c2 (k4.extBut _ _ c4 (k3.extBut _ _ c2 (k2.extBut _ _ c3 (k1.extBut _ _ c1 e))));have r1:S1 (i+1) g5:=D1.frame _ _ _ q2 λb hb o e=>k5.extBut _ _ (λz'=>Ap.b2 (z' ▸ hb)) (k4.extBut _ _ (λz'=>Ap.b3 (z' ▸ hb)) (k3.extBut _ _ (λz'=>Ap.b2 (z' ▸ hb)) e));have r2:S2 (i+1) g5:=D2.frame _ _ _ q4 λb hb o e=>k5.extBut _ _ (λz'=>Ap.c2 (z' ▸ hb)) e;have lz:z<g5.objs.size:=RH hz5;show Sy _ _ (Builtin.SmallTypes.ownedTupleHandOut (.ref z) (.ref g5.objs.size) >>= _) _ _ _;refine SK ?_;unfold Builtin.SmallTypes.ownedTupleHandOut;have hz6:TJ (g5.push {cls:=.type "tuple",data:=.seq #[x,y]}) z TI TO .ellipsis:=RL _ hz5;refine SK (TL hz6 (by simp) λg7 hz7 k7=>?_);have hz7:TJ g7 z TI TO (rawInt g5.objs.size):=hz7;refine TL hz7 (by simp) λg8 hz8 k8=>?_;have hz8:TJ g8 z TI TO (rawInt g5.objs.size):=hz8;have up:∀c o,c≠z->g5.get? c=some o->g8.get? c=some o:=λc o c1 e=>k8.extBut _ _ c1 (k7.extBut _ _ c1 (RL _ e));have t8:TK g8 g5.objs.size x y:=k8.extBut _ _ (OS lz) (k7.extBut _ _ (OS lz) (RM _ rfl));have s8:g8.objs.size=g5.objs.size+1:=by rw[k8.1,k7.1,RN]
 rw[hsz]at hz8 t8 s8;refine SJ ⟨_,rfl,?_⟩;show Q (.ref g5.objs.size) _;rw[hsz];exact hQ x y g8 tk4 p1 p2 hz8 (up _ _ Ap.a2 t5) (D1.frame _ _ _ r1 λb hb o e=>up b o (λz'=>Ap.b1 (z' ▸ hb)) e) (D2.frame _ _ _ r2 λb hb o e=>up b o (λz'=>Ap.c1 (z' ▸ hb)) e) t8 s8 λc o c1 c2 c3 c4 e=>up c o c1 (k15 c o c1 c2 c3 c4 e)
def next_end{Q:Fin->Sw->Prop}(Ap:Apart z TI TO i1 i2 fp1 fp2)(D1:Draws prog w A i1 fp1 n1 P1 S1)(D2:Draws prog w A i2 fp2 n2 P2 S2)(hz:TJ s.heap z TI TO .none)(hTI:TK s.heap TI (.ref i1) (.ref i2))(hTO:TK s.heap TO a b)(st1:S1 i s.heap)(st2:S2 i s.heap)(hend:i=n1\/(i<n1/\i=n2))
  (hE:∀g e tk,(∀c o,c≠z->c≠TO->c≠i1->c≠i2->s.heap.get? c=some o->g.get? c=some o)->(∃o,g.get? e=some o/\o.cls=.type "StopIteration")->E (.ref e) {s with heap:=g,toks:=tk}):
  Sy (model prog w) A (Builtin.«zip.__next__» ⟨[.ref z],[]⟩) Q E s:=by
 have n1z:i1≠z:=λe=>Ap.b1 (e ▸ Ap.e1);have n2z:i2≠z:=λe=>Ap.c1 (e ▸ Ap.e2);have n1T:i1≠TO:=λe=>Ap.b2 (e ▸ Ap.e1);show Sy _ _ (field (.ref z) 2 >>= _) _ _ _;refine SK (Tj hz rfl (x:=.bool false) rfl ?_);show Sy _ _ (field (.ref z) 3 >>= _) _ _ _;refine SK (Tj hz rfl (x:=.ref TI) rfl ?_);refine SK (TF hTI rfl ?_);show Sy _ _ (Builtin.SmallTypes.ownedTupleIsFree (.ref z) >>= _) _ _ _;refine SK ?_;unfold Builtin.SmallTypes.ownedTupleIsFree;refine SK (Tj hz rfl (x:=.none) rfl (SJ ?_));simp only[if_true];refine SK (Tz ?_);refine SK (Tj hz rfl (x:=.ref TO) rfl ?_);refine SK (TL hz (by simp) λg1 hz1 k1=>?_);have hz1:TJ g1 z TI TO .ellipsis:=hz1;refine SK ?_;simp only[Qf,List.zipIdx_nil,PD,List.forIn_nil];refine SK (SK (TN ?_));show Sy _ _ (Builtin.SmallTypes.nextOf (.ref i1) >>= _) _ _ _;have q1:S1 i g1:=D1.frame _ _ _ st1 λb hb o e=>k1.extBut _ _ (λz'=>Ap.b1 (z' ▸ hb)) e;rcases hend with hend|⟨l1,hend⟩
 ·subst hend;refine SK (D1.done {s with heap:=g1} _ _ q1 λg2 e k2 he=>?_);obtain⟨oe,hoe,hce⟩:=he;have hz2:TJ g2 z TI TO .ellipsis:=k2 _ _ n1z.symm hz1;have hez:e≠z:=λx=>by rw[x,hz2]at hoe;cases hoe;simp at hce
  exact TL hz2 (by simp) λg3 _ k3=>hE g3 e s.toks (λc o c1 _ c3 _ x=>k3.extBut _ _ c1 (k2 _ _ c3 (k1.extBut _ _ c1 x))) ⟨oe,k3.extBut _ _ hez hoe,hce⟩
 ·refine SK (D1.item i {s with heap:=g1} _ _ l1 q1 λx g2 tk2 p1 q2 k2=>SJ ?_);have t2:TK g2 TO a b:=k2.extBut _ _ n1T.symm (k1.extBut _ _ Ap.a2 hTO);refine SK (TF t2 rfl ?_);refine SK (TQ t2 λg3 t3 k3=>?_);refine SK (TR (SJ ?_));refine SK (SK (TN ?_));show Sy _ _ (Builtin.SmallTypes.nextOf (.ref i2) >>= _) _ _ _;have q3:S2 i g3:=D2.frame _ _ _ st2 λb hb o e=>k3.extBut _ _ (λz'=>Ap.c2 (z' ▸ hb)) (k2.extBut _ _ (λz'=>Ap.c3 (z' ▸ hb)) (k1.extBut _ _ (λz'=>Ap.c1 (z' ▸ hb)) e));subst hend;refine SK (D2.done {s with heap:=g3,toks:=tk2} _ _ q3 λg4 e k4 he=>?_);obtain⟨oe,hoe,hce⟩:=he;have hz4:TJ g4 z TI TO .ellipsis:=k4 _ _ n2z.symm (k3.extBut _ _ Ap.a2.symm (k2.extBut _ _ n1z.symm hz1));have hez:e≠z:=λx=>by rw[x,hz4]at hoe;cases hoe;simp at hce
  exact TL hz4 (by simp) λg5 _ k5=>hE g5 e tk2 (λc o c1 c2 c3 c4 x=>k5.extBut _ _ c1 (k4 _ _ c4 (k3.extBut _ _ c2 (k2.extBut _ _ c3 (k1.extBut _ _ c1 x))))) ⟨oe,k5.extBut _ _ hez hoe,hce⟩
end
def SQ(b:Bool)(h:Sl)(l:Si)(xs:Array Se):Prop:=if b then h.IsList l xs else h.IsTuple l xs
def SI(b:Bool)(h:Sl)(i l:Si)(k:Nat):Prop:=if b then h.IsListIter i l k else h.IsTupleIter i l k
def LD(b:Bool):String:=if b then"list_iterator"else"tuple_iterator"
def SQ.keep{b:Bool}{h h':Sl}{l:Si}{xs:Array Se}(x:SQ b h l xs)(k:∀o,h.get? l=some o->h'.get? l=some o):SQ b h' l xs:=by
 cases b with
 |true=>exact Heap.IsList.at x k
 |false=>obtain⟨o,e,r⟩:=(show h.IsTuple l xs from x);exact(show h'.IsTuple l xs from⟨o,k o e,r⟩)
def SI.keep{b:Bool}{h h':Sl}{i l:Si}{n:Nat}(x:SI b h i l n)(k:∀o,h.get? i=some o->h'.get? i=some o):SI b h' i l n:=by
 cases b with
 |true=>exact Heap.IsListIter.at x k
 |false=>exact Heap.IsTupleIter.at x k
def SQ.lt{b:Bool}{h:Sl}{l:Si}{xs:Array Se}(x:SQ b h l xs):l<h.objs.size:=by
 cases b with
 |true=>obtain⟨o,e,_⟩:=(show h.IsList l xs from x);exact RH e
 |false=>obtain⟨o,e,_⟩:=(show h.IsTuple l xs from x);exact RH e
def SI.get{b:Bool}{h:Sl}{i l:Si}{n:Nat}(x:SI b h i l n):∃o,h.get? i=some o/\∀v,o.data≠.cell v:=by
 cases b with
 |true=>obtain⟨o,e,_,d⟩:=(show h.IsListIter i l n from x);exact⟨o,e,λv z=>by rw[d]at z;cases z⟩
 |false=>obtain⟨o,e,_,d⟩:=(show h.IsTupleIter i l n from x);exact⟨o,e,λv z=>by rw[d]at z;cases z⟩
def SI.new{b:Bool}{h:Sl}{l:Si}:SI b (h.push {cls:=.type (LD b),data:=.fields #[.ref l,.int 0 0]}) h.objs.size l 0:=by
 cases b with
 |true=>exact⟨_,RM _ rfl,rfl,rfl⟩
 |false=>exact⟨_,RM _ rfl,rfl,rfl⟩
def uo{b:Bool}{prog:Sg}{w:Sf}{A:Sv}{E:Se->Sw->Prop}{s:Sw}{l:Si}{xs:Array Se}{Q:Se->Sw->Prop}(h:SQ b s.heap l xs)
  (hQ:Q (.ref s.heap.objs.size) {s with heap:=s.heap.push {cls:=.type (LD b),data:=.fields #[.ref l,.int 0 0]}}):Sy (model prog w) A (pyIter (.ref l)) Q E s:=by
 cases b with
 |true=>exact SL h hQ
 |false=>exact wpAny_pyIter_tuple h hQ
def n9{prog:Sg}{w:Sf}{A:Sv}(b:Bool)(hh:A.handled=none)(it l:Si)(hne:l≠it)(its:Array Se):Draws prog w A it [it,l] its.size (λi v=>its[i]?=some v) (λi h=>SI b h it l i/\SQ b h l its):=by
 cases b with
 |true=>exact Draws.list hh it l hne its
 |false=>exact IP hh it l hne its
abbrev C3(b1:Bool)(h:Sl)(l1:Si):Sl:=h.push {cls:=.type (LD b1),data:=.fields #[.ref l1,.int 0 0]}
abbrev J3(b1 b2:Bool)(h:Sl)(l1 l2:Si):Sl:=(C3 b1 h l1).push {cls:=.type (LD b2),data:=.fields #[.ref l2,.int 0 0]}
abbrev LV(b1 b2:Bool)(h:Sl)(l1 l2:Si):Sl:=(J3 b1 b2 h l1 l2).push {cls:=.type "tuple",data:=.seq #[.ref h.objs.size,.ref (C3 b1 h l1).objs.size]}
abbrev Lj(b1 b2:Bool)(h:Sl)(l1 l2:Si):Sl:=(LV b1 b2 h l1 l2).push {cls:=.type "tuple",data:=.seq #[.none,.none]}
abbrev G9(b1 b2:Bool)(h:Sl)(l1 l2:Si):Sl:=(Lj b1 b2 h l1 l2).push {cls:=.type "zip",data:=.fields #[.none,.bool false,.bool false,.ref (J3 b1 b2 h l1 l2).objs.size,.ref (LV b1 b2 h l1 l2).objs.size]}
def C7(b1 b2:Bool)(l1 l2:Si)(xs ys:Array Se):Meets (Builtin.«zip.__new__» ⟨[.type "zip",.ref l1,.ref l2],[]⟩) (λ_ R s=>SQ b1 s.heap l1 xs/\SQ b2 s.heap l2 ys/\R (.ok (.ret (.ref (Lj b1 b2 s.heap l1 l2).objs.size))) {s with heap:=G9 b1 b2 s.heap l1 l2}):=
 .of_wp λprog w A R s h=>by
  obtain⟨hp,g,d,tk,os⟩:=s;obtain⟨q1,q2,h⟩:=h;have hsub:=sub_zip;have e1:SQ b1 (Shared.heap ⟨hp,g,d,tk,os⟩) l1 xs:=q1;have e2:SQ b2 (Shared.heap ⟨C3 b1 hp l1,g,d,tk,os⟩) l2 ys:=q2.keep λo e=>RL _ e
  wp_walk using uo e1,uo e2
  exact⟨_,rfl,h⟩
def DL{prog:Sg}{w:Sf}{A:Sv}{E:Se->Sw->Prop}{s:Sw}{b1 b2:Bool}{l1 l2:Si}{xs ys:Array Se}{Q:Se->Sw->Prop}(h1:SQ b1 s.heap l1 xs)(h2:SQ b2 s.heap l2 ys)
  (h:∀ g,TJ g (s.heap.objs.size+4) (s.heap.objs.size+2) (s.heap.objs.size+3) .none->TK g (s.heap.objs.size+2) (.ref s.heap.objs.size) (.ref (s.heap.objs.size+1))->TK g (s.heap.objs.size+3) .none .none->SI b1 g s.heap.objs.size l1 0->SI b2 g (s.heap.objs.size+1) l2 0 ->
   (∀c o,s.heap.get? c=some o->g.get? c=some o)->Q (.ref (s.heap.objs.size+4)) {s with heap:=g}):Sy (model prog w) A (call (.type "zip") [.ref l1,.ref l2]) Q E s:=by
 refine callType_new F.called_zip (by decide) (F.typeCall_zip_2 _ _) (F.newCall_zip_2 _ _) (λobj=>F.args_object_init_3 obj _ _) F.entry_zip_new (C7 b1 b2 l1 l2 xs ys) ⟨h1,h2,?_⟩;have z1:(C3 b1 s.heap l1).objs.size=s.heap.objs.size+1:=RN ..
 have z2:(J3 b1 b2 s.heap l1 l2).objs.size=s.heap.objs.size+2:=by rw[RN,z1]
 have z3:(LV b1 b2 s.heap l1 l2).objs.size=s.heap.objs.size+3:=by rw[RN,z2]
 have z4:(Lj b1 b2 s.heap l1 l2).objs.size=s.heap.objs.size+4:=by rw[RN,z3]
 have u1:∀c o,(C3 b1 s.heap l1).get? c=some o->(G9 b1 b2 s.heap l1 l2).get? c=some o:=λc o e=>RL _ (RL _ (RL _ (RL _ e)));have u2:∀c o,(J3 b1 b2 s.heap l1 l2).get? c=some o->(G9 b1 b2 s.heap l1 l2).get? c=some o:=λc o e=>RL _ (RL _ (RL _ e));have g5:(G9 b1 b2 s.heap l1 l2).get? (Lj b1 b2 s.heap l1 l2).objs.size=some _:=RM _ rfl;have g4:(G9 b1 b2 s.heap l1 l2).get? (LV b1 b2 s.heap l1 l2).objs.size=some _:=RL _ (RM _ rfl);have g3:(G9 b1 b2 s.heap l1 l2).get? (J3 b1 b2 s.heap l1 l2).objs.size=some _:=RL _ (RL _ (RM _ rfl));have g2:SI b2 (G9 b1 b2 s.heap l1 l2) (C3 b1 s.heap l1).objs.size l2 0:=SI.keep (SI.new (h:=C3 b1 s.heap l1)) λo e=>u2 _ o e;have g1:SI b1 (G9 b1 b2 s.heap l1 l2) s.heap.objs.size l1 0:=SI.keep SI.new λo e=>u1 _ o e;show _/\_;rw[z2,z3,z4]at g5;rw[z1,z2]at g3;rw[z3]at g4;rw[z1]at g2;rw[z4];exact⟨⟨_,g5,rfl⟩,h _ g5 g3 g4 g1 g2 λc o e=>u1 c o (RL _ e)⟩
def BV(b : Bool)(l : Si)(xs : Array Se): Meets (Builtin.«enumerate.__new__» ⟨[.type "enumerate", .ref l], []⟩) (fun _ R s => SQ b s.heap l xs /\
      R (.ok (.ret (.ref (C3 b s.heap l).objs.size))) {s with heap:=(C3 b s.heap l).push {cls:=.type "enumerate",data:=.fields #[.none,.bool false,.ref s.heap.objs.size,rawInt 0,.none,.none]}}):=
  .of_wp λprog w A R s h=>by
    obtain⟨hp,g,d,tk,os⟩:=s;obtain⟨q1,h⟩:=h;have hsub:=sub_enumerate;have e1:SQ b (Shared.heap ⟨hp,g,d,tk,os⟩) l xs:=q1
    wp_walk using uo e1
    refine wpAny_stack_any λst=>SJ ?_;split
    · rename_i c _ _ _ _ _
      cases(c==Value.type "enumerate")<;>(wp_walk using uo e1;exact⟨_,rfl,h⟩)
    · wp_walk using uo e1
      exact⟨_,rfl,h⟩
end ZI
namespace TG
open PySem PySem.Spec L2 ZI
variable[bh]
section
variable{X:Cx}{pins:List (Si×Obj)}{σ:St}{H:Hp}{s:Sw}{h':Sl}
def Inv.turnedL{ch:List Si}{p:Si}{o:HO}{t':Nat}(I:Inv X pins σ H s)(hf:∀b∈ch,vc X pins H b)(k:∀b u,b∉ch->s.heap.get? b=some u->h'.get? b=some u)(hp:s.heap.objs.size<=p)(new:dq X.prog X.w (upd H p o) h' p o):
  Inv X pins σ (upd H p o) {s with heap:=h',toks:=t'}:=by
 have hn:=I.hok.fresh hp;have nch:∀b u,H b=some u->b∉ch:=λb u e z=>by rw[(hf b z).1]at e;cases e
 refine I.step (g':=s.gens) (d':=s.drawn) (ch:=ch) (λb hb=>?_) (λb o _ _ hc e _=>k b o hc e) (λb o _ _ hc e _=>⟨o.slots,k b o hc e⟩) (λb u _ q n=>by rw[bp (OD (OB (RH q) hp))];exact n)
  (λb o hc e=>⟨o,k b o hc e⟩) (λb xs q=>by rw[bp (bH q hn)];exact q) (λb u xs q=>by rw[bp (bH q hn)];exact q) (λb ps q=>⟨#[],by rw[bp (bH q hn),q];simp⟩) (λm hm=>?_) (λb u e=>?_) I.bare
 ·obtain⟨_,f1,_,f3,f4,f5⟩:=hf b hb;exact⟨f3,f1,f4,f5⟩
 ·obtain⟨o,es,ep,ho,r⟩:=hm;exact⟨o,es,ep,k _ o (λz=>(hf _ z).2.1 rfl) ho,r⟩
 ·by_cases hb:b=p
  ·subst hb;rw[bI]at e;cases e;exact new
  ·rw[bp hb]at e;refine(I.hok b u e).stay (λc v hc q=>k c v ?_ q) (λc q=>by rw[bp (bH q hn)];exact q) λc xs q=>by rw[bp (bH q hn)];exact q
   rcases hc with z|z
   ·rw[z];exact nch b u e
   ·exact nch c _ z
def Inv.turned0{ch:List Si}{t':Nat}(I:Inv X pins σ H s)(hf:∀b∈ch,vc X pins H b)(k:∀b u,b∉ch->s.heap.get? b=some u->h'.get? b=some u):Inv X pins σ H {s with heap:=h',toks:=t'}:=by
 have nch:∀b u,H b=some u->b∉ch:=λb u e z=>by rw[(hf b z).1]at e;cases e
 refine I.step (g':=s.gens) (d':=s.drawn) (ch:=ch) (λb hb=>?_) (λb o _ _ hc e _=>k b o hc e) (λb o _ _ hc e _=>⟨o.slots,k b o hc e⟩) (λ_ _ _ _ n=>n)
  (λb o hc e=>⟨o,k b o hc e⟩) (λ_ _ e=>e) (λ_ _ _ e=>e) (λb ps e=>⟨#[],by rw[e];simp⟩) (λm hm=>?_) (λb u e=>?_) I.bare
 ·obtain⟨_,f1,_,f3,f4,f5⟩:=hf b hb;exact⟨f3,f1,f4,f5⟩
 ·obtain⟨o,es,ep,ho,r⟩:=hm;exact⟨o,es,ep,k _ o (λz=>(hf _ z).2.1 rfl) ho,r⟩
 ·refine(I.hok b u e).stay (λc v hc q=>k c v ?_ q) (λ_ q=>q) λ_ _ q=>q;rcases hc with z|z
  ·rw[z];exact nch b u e
  ·exact nch c _ z
end
def SX(K:Q7)(b:Bool)(H:Hp)(a:Si)(xs:List V):Prop:=if b then o9 K H a xs else qv K H a xs
def SX.same{K:Q7}{b:Bool}{H H':Hp}{a:Si}{xs:List V}(e:bT H H')(h:SX K b H a xs):SX K b H' a xs:=by
 cases b with
 |true=>exact e.seq (show o9 K H a xs from h)
 |false=>exact B5 e (show qv K H a xs from h)
section
variable{X:Cx}{pins:List (Si×Obj)}{σ:St}{H:Hp}{s:Sw}
def Inv.sx(I:Inv X pins σ H s){b:Bool}{a:Si}{xs:List V}(h:SX X.K b H a xs):∃its:List Se,Vals xs its/\SQ b s.heap a its.toArray/\xs.length<=Sn:=by
 cases b with
 |true=>obtain⟨its,r,p,z⟩:=I.list (show o9 X.K H a xs from h);exact⟨its,r,p.isList,z⟩
 |false=>obtain⟨its,r,p,z⟩:=I.tuple (show qv X.K H a xs from h);exact⟨its,r,p,z⟩
def Inv.sx_inj(I:Inv X pins σ H s){b:Bool}{a:Si}{xs ys:List V}(h:SX X.K b H a xs)(h':SX X.K b H a ys):xs=ys:=by
 cases b with
 |true=>exact I.list_inj h h'
 |false=>exact I.tuple_inj h h'
end
def N9(K:Q7)(b1 b2:Bool)(a1 a2:Si):It:=
  ⟨fun i H=>∃ xs ys,SX K b1 H a1 xs/\SX K b2 H a2 ys/\i < xs.length/\i < ys.length,
   λi H v H'=>∃p x y,v=.ref p/\H p=none/\H'=upd H p (.tup [x,y])/\(∀xs,SX K b1 H a1 xs->xs[i]?=some x)/\∀ys,SX K b2 H a2 ys->ys[i]?=some y,
   λi H=>∃xs ys,SX K b1 H a1 xs/\SX K b2 H a2 ys/\(i=xs.length\/(i<xs.length/\i=ys.length))⟩
def Fc{P:Sg}{w:Sf}{K:Q7}{es:List Sz}{k:Nat}{pos:Pos}{b1 b2:Bool}{a1 a2 z TI TO i1 i2:Si}(Ap:Apart z TI TO i1 i2 [i1,a1] [i2,a2])(n1:a1≠i1)(n2:a2≠i2)(n3:z≠i1)(n4:z≠i2):Turn P w K (.Tuple es k pos) (N9 K b1 b2 a1 a2) [z,TI,TO,i1,i2] z
  (λi h=>TJ h z TI TO .none/\TK h TI (.ref i1) (.ref i2)/\(∃a b,TK h TO a b)/\SI b1 h i1 a1 i/\SI b2 h i2 a2 i)where
 mem:=by simp
 obj:=λi h ⟨hz,hI,⟨a,b,hO⟩,s1,s2⟩ c hc=>by
  simp only[Qg,Qh,or_false]at hc;rcases hc with rfl|rfl|rfl|rfl|rfl
  ·exact⟨_,hz,λv q=>by cases q⟩
  ·exact⟨_,hI,λv q=>by cases q⟩
  ·exact⟨_,hO,λv q=>by cases q⟩
  ·exact s1.get
  ·exact s2.get
 keep:=λi h h' ⟨hz,hI,⟨a,b,hO⟩,s1,s2⟩ kp=>⟨kp z (by simp) _ hz,kp TI (by simp) _ hI,⟨a,b,kp TO (by simp) _ hO⟩,s1.keep λo e=>kp i1 (by simp) o e,s2.keep λo e=>kp i2 (by simp) o e⟩
 item:=by
  intro X hP hw hK hc i pins s σ H E I hf ⟨hz,hI,⟨a,b,hO⟩,s1,s2⟩ hg;subst hP hw hK;obtain⟨xs,ys,g1,g2,l1,l2⟩:=hg;obtain⟨its1,r1,q1,z1⟩:=Inv.sx I g1;obtain⟨its2,r2,q2,z2⟩:=Inv.sx I g2;have hh:X.A.in1.handled=none:=I.ok.hd hc;have hT:s.TypeIs (.ref z) "zip":=⟨_,hz,rfl⟩
  unfold pyNext;refine SK (TV (Tn (name:=Str.ofString "__next__") hT F.slot_zip_next (To F.slot_zip_next hT F.entry_zip_next
   (next_item Ap (n9 (A:=X.A.in1) b1 hh i1 a1 n1 its1.toArray) (n9 (A:=X.A.in1) b2 hh i2 a2 n2 its2.toArray) hz hI hO ⟨s1,q1⟩ ⟨s2,q2⟩ (by rw[OW,<-r1.length];exact l1) (by rw[OW,<-r2.length];exact l2) λu v g tk p1 p2 hz' hO' t1 t2 hp sz kp=>?_) (F.args_zip_next_1 _))))
  have e1:its1[i]?=some u:=by simpa using p1
  have e2:its2[i]?=some v:=by simpa using p2
  have hx:∃x,xs[i]?=some x/\RelV x u:=by
   obtain⟨u',hu,ru⟩:=r1.get (i:=i) (x:=xs[i]) (by simp[l1]);rw[e1]at hu;cases hu;exact⟨xs[i],by simp[l1],ru⟩
  have hy:∃y,ys[i]?=some y/\RelV y v:=by
   obtain⟨u',hu,ru⟩:=r2.get (i:=i) (x:=ys[i]) (by simp[l2]);rw[e2]at hu;cases hu;exact⟨ys[i],by simp[l2],ru⟩
  obtain⟨x,ex,rx⟩:=hx;obtain⟨y,ey,ry⟩:=hy;refine SJ ⟨_,rfl,?_⟩;refine wpAny_letOwnedTupleGo_zip hz' λg' hz2 sb=>?_;have hpz:s.heap.objs.size≠z:=OS (RH hz);have hp':TK g' s.heap.objs.size u v:=sb.extBut _ _ hpz hp;have I':Inv X pins σ (upd H s.heap.objs.size (.tup [x,y])) {s with heap:=g',toks:=tk}:=Inv.turnedL (ch:=[z,TI,TO,i1,i2]) I hf (λc o hc e=>by
   simp only[Qg,Qh,or_false,not_or]at hc;exact sb.extBut _ _ hc.1 (kp c o hc.1 hc.2.2.1 hc.2.2.2.1 hc.2.2.2.2 e)) (OT _) ⟨by show 2<=Sn;decide,[u,v],.cons rx (.cons ry .nil),_,hp',rfl,_,rfl⟩
  have fr:H s.heap.objs.size=none:=I.fresh;have ne:∀c∈[z,TI,TO,i1,i2],c≠s.heap.objs.size:=λc hc e=>by
   simp only[Qg,Qh,or_false]at hc;rcases hc with rfl|rfl|rfl|rfl|rfl
   ·exact hpz e.symm
   ·exact absurd (RH hI) (by rw[e];exact OC _)
   ·exact absurd (RH hO) (by rw[e];exact OC _)
   ·obtain⟨o,q,_⟩:=s1.get;exact absurd (RH q) (by rw[e];exact OC _)
   ·obtain⟨o,q,_⟩:=s2.get;exact absurd (RH q) (by rw[e];exact OC _)
  refine⟨.ref s.heap.objs.size,_,I',rfl,⟨_,x,y,rfl,fr,rfl,λxs' h=>by rw[Inv.sx_inj I h g1];exact ex,λys' h=>by rw[Inv.sx_inj I h g2];exact ey⟩,⟨hz2,?_,⟨u,v,sb.extBut _ _ Ap.a2 hO'⟩,?_,?_⟩,λc hc=>by rw[bp (ne c hc)];exact(hf c hc).1⟩
  ·exact sb.extBut _ _ Ap.a1 (kp TI _ Ap.a1 Ap.a3 Ap.d1 Ap.d2 hI)
  ·exact t1.1.keep λo e=>sb.extBut _ _ n3.symm e
  ·exact t2.1.keep λo e=>sb.extBut _ _ n4.symm e
 done:=by
  intro X hP hw hK hc i pins s σ H E I hf ⟨hz,hI,⟨a,b,hO⟩,s1,s2⟩ hg;subst hP hw hK;obtain⟨xs,ys,g1,g2,hl⟩:=hg;obtain⟨its1,r1,q1,z1⟩:=Inv.sx I g1;obtain⟨its2,r2,q2,z2⟩:=Inv.sx I g2;have hh:X.A.in1.handled=none:=I.ok.hd hc;have hT:s.TypeIs (.ref z) "zip":=⟨_,hz,rfl⟩
  unfold pyNext;refine SK (TV (Tn (name:=Str.ofString "__next__") hT F.slot_zip_next (To F.slot_zip_next hT F.entry_zip_next
   (next_end (i:=i) Ap (n9 (A:=X.A.in1) b1 hh i1 a1 n1 its1.toArray) (n9 (A:=X.A.in1) b2 hh i2 a2 n2 its2.toArray) hz hI hO ⟨s1,q1⟩ ⟨s2,q2⟩ (by rw[OW,OW,<-r1.length,<-r2.length];exact hl) λg e tk kp he=>?_) (F.args_zip_next_1 _))))
  obtain⟨o,ho,hce⟩:=he;refine SK (TY (T:="StopIteration") (b:=true) ⟨o,ho,hce⟩ isSubtype_stop ?_);refine SJ ⟨rfl,Inv.turned0 (ch:=[z,TI,TO,i1,i2]) I hf λc o hc e=>?_⟩;simp only[Qg,Qh,or_false,not_or]at hc;exact kp c o hc.1 hc.2.2.1 hc.2.2.2.1 hc.2.2.2.2 e
 self:=λ_ _ _ _ _ ⟨hz,_⟩ h=>wpAny_pyIter_zip hz h
def FU:D->Option (Bool×List D)
 |.lst xs=>some (true,xs)
 |.tup xs=>some (false,xs)
 |_=>none
def uj{K:Q7}{H:Hp}{d:D}{b:Bool}{xs:List D}{v:V}(e:FU d=some (b,xs))(h:dD K H d v):∃a vs,v=.ref a/\SX K b H a vs/\bx K H xs vs:=by
 cases d with
 |lst ys=>cases e;exact cX.mp h
 |tup ys=>cases e;obtain⟨a,vs,e1,e2,e3⟩:=cZ.mp h;exact⟨a,vs,e1,qv.of e2,e3⟩
 |_=>cases e
def kE:List D->List D->List D
 |x::xs,y::ys=>.tup [x,y]::kE xs ys
 |_,_=>[]
def rC:∀xs ys:List D,(kE xs ys).length=min xs.length ys.length
 |[],_=>by simp[kE]
 |_::_,[]=>by simp[kE]
 |x::xs,y::ys=>by
  rw[kE,OY,rC xs ys,OY,OY];omega
def za:∀{xs ys:List D}{i:Nat}{d:D},(kE xs ys)[i]?=some d->∃x y,xs[i]?=some x/\ys[i]?=some y/\d=.tup [x,y]
 |[],_,i,d,h=>by simp[kE]at h
 |_::_,[],i,d,h=>by simp[kE]at h
 |x::xs,y::ys,0,d,h=>by
  rw[kE,Qi]at h;cases h;exact⟨x,y,rfl,rfl,rfl⟩
 |x::xs,y::ys,i+1,d,h=>by
  rw[kE,Qj]at h;obtain⟨a,b,h1,h2,h3⟩:=za h;exact⟨a,b,by rw[Qj];exact h1,by rw[Qj];exact h2,h3⟩
def Dg{K:Q7}{Hd:Hp}{b1 b2:Bool}{a1 a2:Si}{ds es:List D}{vs ws:List V}(h1:SX K b1 Hd a1 vs)(g1:bx K Hd ds vs)(h2:SX K b2 Hd a2 ws)(g2:bx K Hd es ws):Walk K Hd (N9 K b1 b2 a1 a2) (kE ds es):=λHn O' i hO sm=>
  have s':bT Hd Hn:=sm.trans (aU Hn O')
  ⟨fun d e=>by
    obtain⟨x,y,e1,e2,rfl⟩:=za e;have l1:i<ds.length:=(List.getElem?_eq_some_iff.mp e1).1;have l2:i<es.length:=(List.getElem?_eq_some_iff.mp e2).1;obtain⟨v,ev,dv⟩:=g1.get e1;obtain⟨w,ew,dw⟩:=g2.get e2;refine⟨⟨vs,ws,h1.same s',h2.same s',by rw[<-g1.length];exact l1,by rw[<-g2.length];exact l2⟩,λu H2 ⟨p,x',y',eu,hp,eH,q1,q2⟩=>?_⟩;have z1:=q1 vs (h1.same s');rw[ev]at z1;cases z1;have z2:=q2 ws (h2.same s');rw[ew]at z2;cases z2;subst eH eu;exact⟨cI hp _,gZ hO hp (bP.mpr ⟨v,_,rfl,dv.mono sm,bP.mpr ⟨w,_,rfl,dw.mono sm,dA.mpr rfl⟩⟩)⟩,
   λhl=>by
    rw[rC]at hl;refine⟨vs,ws,h1.same s',h2.same s',?_⟩;rw[<-g1.length,<-g2.length]
    omega⟩
def uT:List D->Option (List D)
 |[a,b]=>(FU a).bind λx=>(FU b).bind λy=>some (kE x.2 y.2)
 |_=>none
def sR(f:ay->R (List D)):ay->R (List D):=λρ=>(f ρ).bind λds=>rO (uT ds)
section
variable{X:Cx}
def HW{a b c:Si}(h1:a≠b)(h2:a≠c):a∉[b,c]:=λh=>by
 rcases List.mem_cons.mp h with z|z
 ·exact h1 z
 ·exact h2 (List.mem_singleton.mp z)
def Bv{n a1 a2:Si}(h1:a1<n)(h2:a2<n):Apart (n+4) (n+2) (n+3) n (n+1) [n,a1] [n+1,a2]:=by
 have lt:∀{a b:Nat},a<b->(b:Si)≠(a:Si):=λh=>OS h;have lt':∀{a b:Nat},a<b->(a:Si)≠(b:Si):=λh=>OD h;have g:∀k:Nat,a1<n+k:=λk=>OB h1 (Qk _ _);have g':∀k:Nat,a2<n+k:=λk=>OB h2 (Qk _ _);have p:∀{j k:Nat},j<k->n+j<n+k:=λh=>Ql h n;have p0:∀{k:Nat},0<k->n<n+k:=λh=>Qm h;exact⟨lt' (p (by decide)),lt' (p (by decide)),lt' (p (by decide)),HW (lt (p0 (by decide))) (lt (g 4)),HW (lt (p0 (by decide))) (lt (g 3)),HW (lt (p0 (by decide))) (lt (g 1)),
  HW (lt (p (by decide))) (lt (g' 4)),HW (lt (p (by decide))) (lt (g' 3)),HW (lt' (p0 (by decide))) (lt h2),lt (p0 (by decide)),lt (p (by decide)),OJ,OJ⟩
def Ij{pins:List (Si×Obj)}{s:Sw}{σ:St}{H:Hp}{O:List Si}{es:List Sz}{k:Nat}{tpos:Pos}{ds r:List D}{vs:List V}{us:List Se}{RR:It->Hp->Prop}(I:Inv X pins σ H s)(hc:uT ds=some r)(d1:bx X.K (hid H O) ds vs)(rv:Vals vs us)(q:∀J,Walk X.K (hid H O) J r->RR J H):
  Sy (model X.prog X.w) X.A (call (.type "zip") us) (λv s1=>Sy (model X.prog X.w) X.A (pyIter v) (PIE X pins σ (.Tuple es k tpos) RR) X.xe s1) X.xe s:=by
 unfold uT at hc;split at hc
 ·rename_i a b;obtain⟨⟨b1,xs⟩,e1,hc⟩:=bind_some hc;obtain⟨⟨b2,ys⟩,e2,hc⟩:=bind_some hc;cases hc;obtain⟨va,vb,rfl,da,db⟩:=d1.two;obtain⟨u1,u2,rfl,r1,r2⟩:=vals2 rv;obtain⟨a1,ws1,rfl,x1,y1⟩:=uj e1 da;obtain⟨a2,ws2,rfl,x2,y2⟩:=uj e2 db;cases r1;cases r2;obtain⟨its1,rr1,q1,_⟩:=Inv.sx I (x1.same (aU H O));obtain⟨its2,rr2,q2,_⟩:=Inv.sx I (x2.same (aU H O));refine DL q1 q2 λg hz hI hO s1 s2 kp=>wpAny_pyIter_zip hz ?_;have Ap:=Bv q1.lt q2.lt;refine⟨_,_,_,_,H,rfl,I.kept (t':=s.toks) kp,Fc (b1:=b1) (b2:=b2) Ap (OD q1.lt) (OD (OB q2.lt (Qk _ 1))) (OS (Qm (by decide))) (OS (Ql (by decide) _)),⟨hz,hI,⟨_,_,hO⟩,s1,s2⟩,λb hb=>?_,q _ (Dg x1 y1 x2 y2)⟩;have le:s.heap.objs.size<=b:=by
   simp only[Qg,Qh,or_false]at hb;rcases hb with rfl|rfl|rfl|rfl|rfl
   ·exact Qk _ _
   ·exact Qk _ _
   ·exact Qk _ _
   ·exact OT _
   ·exact Qk _ _
  exact I.fpOk le (I.hok.fresh le)
 ·cases hc
def M3{a b:Sz}{es:List Sz}{k:Nat}{tpos:Pos}{f:ay->R (List D)}{p pos:Pos}(hg:Gl X "zip")(hm:X.mg "zip"=none)(ha:FA X [a,b] f)(hs:SA [a,b] X.env=(false,eval a X.env)::SA [b] X.env:=by rfl)(hpl:(backTo pos (SA [b] X.env)).any (·.1)=false:=by rfl):FI X (.Tuple es k tpos) (.Call (.Name "zip" p) [a,b] [] pos) (sR f):=by
 intro pins s σ H RR I ⟨O,ρ,E,hG⟩;have hA:=ha pos pins s σ H (λvs H1=>∃ds r,uT ds=some r/\bx X.K (hid H1 O) ds vs/\∀J,Walk X.K (hid H1 O) J r->RR J H1) I ⟨O,ρ,E,(jJ.bind hG).imp λds hG vs H1 s1 d1=>by
  obtain⟨r,e,q⟩:=jJ.rO hG;exact⟨ds,r,e,d1,λJ wk=>q J H1 s1 wk⟩⟩
 refine RY (nn I hg hm PyProof.Rows.boot_zip (RU (eZ hA λus s1 ⟨vs,H1,I1,r1,ds,r,er,d1,q⟩=>?_) hs hpl));exact Ij I1 er d1 r1 q
end
def NU(K:Q7)(b:Bool)(a:Si):It:=
  ⟨fun i H=>∃ xs,SX K b H a xs/\i < xs.length,
   λi H v H'=>∃p x,v=.ref p/\H p=none/\H'=upd H p (.tup [.int i,x])/\∀xs,SX K b H a xs->xs[i]?=some x,
   λi H=>∃xs,SX K b H a xs/\i=xs.length⟩
def BC{P:Sg}{w:Sf}{K:Q7}{es:List Sz}{k:Nat}{pos:Pos}{b:Bool}{a e it:Si}(n1:a≠it)(n2:e≠it)(n3:e≠a):Turn P w K (.Tuple es k pos) (NU K b a) [e,it] e (λi h=>(∃old,IsEnum h e it i old)/\SI b h it a i)where
 mem:=by simp
 obj:=λi h ⟨⟨old,he⟩,s1⟩ c hc=>by
  simp only[Qg,Qh,or_false]at hc;rcases hc with rfl|rfl
  ·exact⟨_,he,λv q=>by cases q⟩
  ·exact s1.get
 keep:=λi h h' ⟨⟨old,he⟩,s1⟩ kp=>⟨⟨old,kp e (by simp) _ he⟩,s1.keep λo q=>kp it (by simp) o q⟩
 item:=by
  intro X hP hw hK hc i pins s σ H E I hf ⟨⟨old,he⟩,s1⟩ hg;subst hP hw hK;obtain⟨xs,g1,l1⟩:=hg;obtain⟨its,r1,q1,z1⟩:=Inv.sx I g1;have hh:X.A.in1.handled=none:=I.ok.hd hc;refine wpAny_pyNext_enum_itemD (n9 (A:=X.A.in1) b hh it a n1 its.toArray) he ⟨s1,q1⟩ (by rw[OW,<-r1.length];exact l1) n2 (HW n2 n3) λu g tk p1 ho t1 hp sz kp=>?_;have e1:its[i]?=some u:=by simpa using p1
  obtain⟨u',hu,ru⟩:=r1.get (i:=i) (x:=xs[i]) (by simp[l1]);rw[e1]at hu;cases hu;refine⟨_,rfl,wpAny_letOwnedTupleGo_enum ho λg' he' sb=>?_⟩;have hpe:s.heap.objs.size≠e:=OS (RH he);have hp':=sb.extBut _ _ hpe hp;have I':Inv X pins σ (upd H s.heap.objs.size (.tup [.int i,xs[i]])) {s with heap:=g',toks:=tk+1}:=Inv.turnedL (ch:=[e,it]) I hf (λc o hc q=>by
   simp only[Qg,Qh,or_false,not_or]at hc;exact sb.extBut _ _ hc.1 (kp c o hc.1 hc.2 q)) (OT _) ⟨by show 2<=Sn;decide,[.int i tk,u],.cons ⟨_,rfl⟩ (.cons ru .nil),_,hp',rfl,_,rfl⟩
  have ne:∀c∈[e,it],c≠s.heap.objs.size:=λc hc q=>by
   simp only[Qg,Qh,or_false]at hc;rcases hc with rfl|rfl
   ·exact hpe q.symm
   ·obtain⟨o,q',_⟩:=s1.get;exact absurd (RH q') (by rw[q];exact OC _)
  refine⟨.ref s.heap.objs.size,_,I',rfl,⟨_,xs[i],rfl,I.fresh,rfl,λxs' h=>by rw[Inv.sx_inj I h g1];simp[l1]⟩,⟨⟨u,?_⟩,t1.1.keep λo q=>sb.extBut _ _ n2.symm q⟩,λc hc=>by rw[bp (ne c hc)];exact(hf c hc).1⟩;have ei:((i+1:Nat):Int)=(i:Int)+1:=by omega
  rw[ei];exact he'
 done:=by
  intro X hP hw hK hc i pins s σ H E I hf ⟨⟨old,he⟩,s1⟩ hg;subst hP hw hK;obtain⟨xs,g1,l1⟩:=hg;obtain⟨its,r1,q1,z1⟩:=Inv.sx I g1;have hh:X.A.in1.handled=none:=I.ok.hd hc;have el:i=its.toArray.size:=by rw[OW,<-r1.length];exact l1
  refine wpAny_pyNext_enum_endD (n9 (A:=X.A.in1) b hh it a n1 its.toArray) he ⟨by rw[<-el];exact s1,q1⟩ λg kp=>⟨rfl,Inv.turned0 (ch:=[e,it]) I hf λc o hc q=>?_⟩
  simp only[Qg,Qh,or_false,not_or]at hc;exact kp c o hc.2 q
 self:=λ_ _ _ _ _ ⟨⟨old,he⟩,_⟩ h=>wpAny_pyIter_enum he h
def mE(i:Nat):List D->List D
 |[]=>[]
 |x::xs=>.tup [.int i,x]::mE (i+1) xs
def pJ:∀(i:Nat)(xs:List D),(mE i xs).length=xs.length
 |_,[]=>rfl
 |i,x::xs=>by rw[mE,OY,pJ (i+1) xs,OY]
def wj:∀{xs:List D}{k i:Nat}{d:D},(mE k xs)[i]?=some d->∃x,xs[i]?=some x/\d=.tup [.int ((k+i:Nat):Int),x]
 |[],k,i,d,h=>by simp[mE]at h
 |x::xs,k,0,d,h=>by
  rw[mE,Qi]at h;cases h;exact⟨x,rfl,rfl⟩
 |x::xs,k,i+1,d,h=>by
  rw[mE,Qj]at h;obtain⟨y,h1,h2⟩:=wj h;refine⟨y,by rw[Qj];exact h1,?_⟩;rw[h2];congr 4;omega
def B4{K:Q7}{Hd:Hp}{b:Bool}{a:Si}{ds:List D}{vs:List V}(h1:SX K b Hd a vs)(g1:bx K Hd ds vs):Walk K Hd (NU K b a) (mE 0 ds):=λHn O' i hO sm=>
  have s':bT Hd Hn:=sm.trans (aU Hn O')
  ⟨fun d e=>by
    obtain⟨x,e1,rfl⟩:=wj e;have l1:i<ds.length:=(List.getElem?_eq_some_iff.mp e1).1;obtain⟨v,ev,dv⟩:=g1.get e1;refine⟨⟨vs,h1.same s',by rw[<-g1.length];exact l1⟩,λu H2 ⟨p,x',eu,hp,eH,q1⟩=>?_⟩;have z1:=q1 vs (h1.same s');rw[ev]at z1;cases z1;subst eH eu;rw[Qn];exact⟨cI hp _,gZ hO hp (bP.mpr ⟨.int i,_,rfl,gG.mpr rfl,bP.mpr ⟨v,_,rfl,dv.mono sm,dA.mpr rfl⟩⟩)⟩,
   λhl=>by
    rw[pJ]at hl;exact⟨vs,h1.same s',by rw[<-g1.length];exact hl⟩⟩
def v9:List D->Option (List D)
 |[a]=>(FU a).bind λx=>some (mE 0 x.2)
 |_=>none
def iQ(f:ay->R (List D)):ay->R (List D):=λρ=>(f ρ).bind λds=>rO (v9 ds)
section
variable{X:Cx}
def B2{prog:Sg}{w:Sf}{A:Sv}{E:Se->Sw->Prop}{s:Sw}{b:Bool}{l:Si}{xs:Array Se}{Q:Se->Sw->Prop}(h1:SQ b s.heap l xs)
  (h:∀g,IsEnum g (s.heap.objs.size+1) s.heap.objs.size 0 .none->SI b g s.heap.objs.size l 0->(∀c o,s.heap.get? c=some o->g.get? c=some o)->Q (.ref (s.heap.objs.size+1)) {s with heap:=g}):Sy (model prog w) A (call (.type "enumerate") [.ref l]) Q E s:=by
 refine callType_new F.called_enumerate (by decide) (F.typeCall_enumerate_1 _) (F.newCall_enumerate_1 _) (λobj=>F.args_object_init_2 obj _) F.entry_enumerate_new (BV b l xs) ⟨h1,?_⟩;have z1:(C3 b s.heap l).objs.size=s.heap.objs.size+1:=RN ..
 have g2:=RM (C3 b s.heap l) (o:={cls:=.type "enumerate",data:=.fields #[.none,.bool false,.ref s.heap.objs.size,rawInt 0,.none,.none]}) rfl;have g1:SI b ((C3 b s.heap l).push {cls:=.type "enumerate",data:=.fields #[.none,.bool false,.ref s.heap.objs.size,rawInt 0,.none,.none]}) s.heap.objs.size l 0:=SI.keep SI.new λo e=>RL _ e;show _/\_;rw[z1]at g2 ⊢;exact⟨⟨_,g2,rfl⟩,h _ g2 g1 λc o e=>RL _ (RL _ e)⟩
def Gm{pins:List (Si×Obj)}{s:Sw}{σ:St}{H:Hp}{O:List Si}{es:List Sz}{k:Nat}{tpos:Pos}{ds r:List D}{vs:List V}{us:List Se}{RR:It->Hp->Prop}(I:Inv X pins σ H s)(hc:v9 ds=some r)(d1:bx X.K (hid H O) ds vs)(rv:Vals vs us)(q:∀J,Walk X.K (hid H O) J r->RR J H):
  Sy (model X.prog X.w) X.A (call (.type "enumerate") us) (λv s1=>Sy (model X.prog X.w) X.A (pyIter v) (PIE X pins σ (.Tuple es k tpos) RR) X.xe s1) X.xe s:=by
 unfold v9 at hc;split at hc
 ·rename_i a;obtain⟨⟨b1,xs⟩,e1,hc⟩:=bind_some hc;cases hc;obtain⟨va,rfl,da⟩:=d1.one;obtain⟨u1,rfl,r1⟩:=vals1 rv;obtain⟨a1,ws1,rfl,x1,y1⟩:=uj e1 da;cases r1;obtain⟨its1,rr1,q1,_⟩:=Inv.sx I (x1.same (aU H O));refine B2 q1 λg he s1 kp=>wpAny_pyIter_enum he ?_;refine⟨_,_,_,_,H,rfl,I.kept (t':=s.toks) kp,BC (b:=b1) (OD q1.lt) (OS (Qm (by decide))) (OS (OB q1.lt (Qk _ 1))),⟨⟨_,he⟩,s1⟩,λb hb=>?_,q _ (B4 x1 y1)⟩;have le:s.heap.objs.size<=b:=by
   simp only[Qg,Qh,or_false]at hb;rcases hb with rfl|rfl
   ·exact Qk _ _
   ·exact OT _
  exact I.fpOk le (I.hok.fresh le)
 ·cases hc
def Gs{a:Sz}{es:List Sz}{k:Nat}{tpos:Pos}{f:ay->R (List D)}{p pos:Pos}(hg:Gl X "enumerate")(hm:X.mg "enumerate"=none)(ha:FA X [a] f)(hs:SA [a] X.env=(false,eval a X.env)::SA [] X.env:=by rfl)(hpl:(backTo pos (SA [] X.env)).any (·.1)=false:=by rfl):FI X (.Tuple es k tpos) (.Call (.Name "enumerate" p) [a] [] pos) (iQ f):=by
 intro pins s σ H RR I ⟨O,ρ,E,hG⟩;have hA:=ha pos pins s σ H (λvs H1=>∃ds r,v9 ds=some r/\bx X.K (hid H1 O) ds vs/\∀J,Walk X.K (hid H1 O) J r->RR J H1) I ⟨O,ρ,E,(jJ.bind hG).imp λds hG vs H1 s1 d1=>by
  obtain⟨r,e,q⟩:=jJ.rO hG;exact⟨ds,r,e,d1,λJ wk=>q J H1 s1 wk⟩⟩
 refine RY (nn I hg hm PyProof.Rows.boot_enumerate (RU (eZ hA λus s1 ⟨vs,H1,I1,r1,ds,r,er,d1,q⟩=>?_) hs hpl));exact Gm I1 er d1 r1 q
end
end TG
namespace TG
open PySem PySem.Spec L2
variable[bh]
def BE{K:Q7}{c:Str}{C C':Si}(h:clsAt K c C)(h':clsAt K c C'):C=C':=by
 unfold clsAt at h h';rw[h]at h';cases h';rfl
def vR{f:Str}:∀{fs:List Str}{vs:List V},fs.contains f=false->(fs.zip vs).lookup f=none
 |[],_,_=>by simp
 |_::_,[],_=>by simp
 |g::fs,x::vs,h=>by
  rw[Qo,Qp]at h;rw[Qq,PC,h.1];exact vR h.2
def Oi(f:Str)(cs:List Str)(d:D):Option D:=match d with
 |.obj c fs vs=>if cs.contains c then(fs.zip vs).lookup f else none
 |_=>none
section
variable{X:Cx}{a o e:Sz}{es:List Sz}{fa fo:FX}{fas:ay->R (List D)}{f m x:Str}{cs:List Str}{pos apos p:Pos}{k k':Nat}{ps:List Str}
def MethAt(P:Sg)(w:Sf)(K:Q7)(mg:Str->Option Se)(base:Sl)(k:Nat)(c m:Str)(ps:List Str)(g:List D->R D):Prop:=
 ∃C f fd,clsAt K c C/\Bz K C/\Meth K C m f/\jV P w K mg base (oN P w) k f fd ps (C2 K ps.length g)/\Binds K fd ps []
def dN(m:Str)(tbl:List (Str×(List D->R D)))(fo:FX)(fas:ay->R (List D)):FX:=λρ=>(fo ρ).bind λo=>match o with
 |.obj c fs vs=>match tbl.lookup c with
  |some g=>if fs.contains m then un else(fas ρ).bind λas=>g (o::as)
  |none=>un
 |_=>un
def oM(P:Sg)(w:Sf)(K:Q7)(mg:Str->Option Se)(base:Sl)(k:Nat)(m:Str)(ps:List Str)(tbl:List (Str×(List D->R D))):Prop:=
 ∀c g,tbl.lookup c=some g->MethAt P w K mg base k c m ps g/\Ar ps.length g
def A8{P:Sg}{w:Sf}{K:Q7}{mg:Str->Option Se}{base:Sl}:oM P w K mg base k m ps []:=λ_ _ h=>nomatch h
def kU{P:Sg}{w:Sf}{K:Q7}{mg:Str->Option Se}{base:Sl}{c:Str}{g:List D->R D}{tbl:List (Str×(List D->R D))}(h:MethAt P w K mg base k c m ps g)(hn:Ar ps.length g)(t:oM P w K mg base k m ps tbl):oM P w K mg base k m ps ((c,g)::tbl):=λc' g' e=>by
 rw[PC]at e;cases hc:c'==c with
 |true=>
  rw[hc]at e;cases e
  have:c'=c:=by simpa using hc
  subst this;exact⟨h,hn⟩
 |false=>rw[hc]at e;exact t c' g' e
def MethAt.mono{P:Sg}{w:Sf}{K:Q7}{mg:Str->Option Se}{base:Sl}{c:Str}{g:List D->R D}(h:MethAt P w K mg base k c m ps g)(hk:k<=k'):MethAt P w K mg base k' c m ps g:=by
 obtain⟨C,f,fd,h1,h2,h3,h4,h5⟩:=h;exact⟨C,f,fd,h1,h2,h3,h4.mono hk,h5⟩
def DT{tbl:List (Str×(List D->R D))}{args:List Sz}{pl:Sem Bool}(tb:oM X.prog X.w X.K X.mg X.base k m ps tbl)(hr:gP k X.A)(ho:FE X o fo)
  (hc:∀ (pins:List (Si×Obj)) (s1:Sw) (σ:St) (H1:Hp) (O:List Si) (ρ:ay) (a f:Si) (od:D) (Q:VK) (g:List D->R D) (fd:S7) (w0:V),Rq X.K (.ref f)=true->jV X.prog X.w X.K X.mg X.base (oN X.prog X.w) k f fd ps (C2 X.K ps.length g)->Binds X.K fd ps []->Ar ps.length g->Inv X pins σ H1 s1->fD X.K O H1 ρ σ->dD X.K (hid H1 O) od (.ref a) ->
   (jJ X σ O H1 ((fas ρ).bind λas=>g (od::as)) λd=>∀v H',bT H1 H'->dD X.K (hid H' O) d v->Q v H')->
   Sy (model X.prog X.w) X.A (S3 pos (.ref f) [.ref a] (backTo pos (SA args X.env)) (backToKw pos (S4 [] X.env))) (EP X pins σ Q) X.xe s1)
  (ht:eval (.Call (.Attribute o m apos) args [] pos) X.env=(do
   let ov<-eval o X.env
   standAt apos.atName
   let (f,first)<-holding [ov] (getMethod ov m pl)
   S3 pos f first (backTo pos (SA args X.env)) (backToKw pos (S4 [] X.env)))):
  FE X (.Call (.Attribute o m apos) args [] pos) (dN m tbl fo fas):=by
 intro pins s σ H Q I ⟨O,ρ,E,hF⟩;refine yz ho I ?_ ht;refine⟨O,ρ,E,(jJ.bind hF).imp λd hF v H1 s1 d1=>?_⟩;cases d with
 |obj c fs vs=>
  have hF':jJ X σ O H (match tbl.lookup c with|some g=>if fs.contains m then un else(fas ρ).bind λas=>g (.obj c fs vs::as)|none=>un) _:=hF;cases hg:tbl.lookup c with
  |none=>rw[hg]at hF';exact hF'.elim
  |some g=>
   rw[hg]at hF';have hF2:jJ X σ O H (if fs.contains m then un else(fas ρ).bind λas=>g (.obj c fs vs::as)) _:=hF';cases hm:fs.contains m with
   |true=>rw[hm]at hF2;exact hF2.elim
   |false=>
    rw[hm]at hF2;have hF3:jJ X σ O H ((fas ρ).bind λas=>g (.obj c fs vs::as)) _:=hF2;have d0:=d1;obtain⟨a,ws,ev,g1,g2,C,dx,g3,g4⟩:=LK.mp d1;obtain⟨⟨C',f,fd,m1,m2,m3,m4,m5⟩,ar⟩:=tb c g hg;have eC:=BE g3 m1;subst eC;subst ev;refine⟨a,C,dx,_,f,rfl,aU H1 O _ _ g4,m2,m3,vR hm,λs2 I2=>?_⟩;exact hc pins s2 σ H1 O ρ a f _ Q g fd (.ref a) m3.kp m4 m5 ar I2 (E.same s1) d0 ((hF3.mono s1).imp λd q v H2 s2 d2=>q v H2 (s1.trans s2) d2)
 |_=>exact hF.elim
def Af{σ:St}{O:List Si}{H:Hp}{g:List D->R D}{ds:List D}{vs:List V}{Q:VK}{n:Nat}(ar:Ar n g)(hO:fT H O)(d1:bx X.K (hid H O) ds vs)(h:jJ X σ O H (g ds) λd=>∀v H',bT H H'->dD X.K (hid H' O) d v->Q v H'):∃E,mZ (oN X.prog X.w) X σ E/\C2 X.K n g vs H Q E:=by
 cases hg:g ds with
 |ok d=>
  rw[hg]at h;refine⟨E0,AC,O,ds,by rw[<-d1.length];exact ar ds (by rw[hg];intro z;cases z),hO,d1,?_⟩;rw[hg];exact h
 |error z=>
  rw[hg]at h;cases z with
  |none=>exact h.elim
  |some x=>
   refine⟨AY X O H x,Bj h,O,ds,by rw[<-d1.length];exact ar ds (by rw[hg];intro z;cases z),hO,d1,?_⟩;rw[hg];exact yk
def LC{tbl:List (Str×(List D->R D))}{pl:Sem Bool}(tb:oM X.prog X.w X.K X.mg X.base k m ps tbl)(hr:gP k' X.A)(hk:k<=k')(ho:FE X o fo)(ha:FA X (e::es) fas)
  (hns:(e::es).all noStar=true:=by rfl)
  (ht:eval (.Call (.Attribute o m apos) (e::es) [] pos) X.env=(do
   let ov<-eval o X.env
   standAt apos.atName
   let (f,first)<-holding [ov] (getMethod ov m pl)
   S3 pos f first (backTo pos (SA (e::es) X.env)) (backToKw pos (S4 [] X.env))):=by rfl):
  FE X (.Call (.Attribute o m apos) (e::es) [] pos) (dN m tbl fo fas):=
 DT tb (hr.mono hk) ho (λpins s1 σ H1 O ρ a f od Q g fd _ kp F b ar I1 E1 dO hP=>by
  refine Rr (first:=[.ref a]) (h₀:=X.base) I1.ok.mod.kin kp (eZ (ha pos pins s1 σ H1 _ I1 ⟨O,ρ,E1,(jJ.bind hP).imp λas hP vs H2 s2 d2=>Af (vs:=.ref a::vs) ar (E1.all.same s2) (bP.mpr ⟨_,_,rfl,dO.mono (cH s2),d2⟩) ((hP.mono s2).imp λd q v H3 s3 d3=>q v H3 (s2.trans s3) d3)⟩) λus s2 ⟨vs,H2,I2,r,Ex,hx,q2⟩=>⟨I2.kIn,?_⟩) (fN (Pn _ _ ▸ hns).1) (jd (Pn _ _ ▸ hns).2);exact Au (us:=.ref a::us) (vs:=.ref a::vs) F (hr.mono hk) b hx I2 (.cons rfl r) q2) ht
def jG{P:Sg}{w:Sf}{K:Q7}{mg:Str->Option Se}{base:Sl}{c y qual:Str}{C f:Si}{fd:S7}{st:SD}{N:List Str}{B:cK}(h1:clsAt K c C)(h2:Bz K C)(h3:Meth K C m f)(F:uG K y qual st f fd)(b:Binds K fd ps [])(SC:aX N ps (aA st))(hb:BodyOk P w K mg base k N qual st f B):
  MethAt P w K mg base (k+1) c m ps (aN B ps.length N.length):=⟨C,f,fd,h1,h2,h3,ww F SC hb,b⟩
def Oc(C:Si)(fs:List Str):Sp:=λvs H Q _=>∃x dx as,vs=.ref x::as/\as.length=fs.length/\H x=some (.ins C dx [])/\Q .non (upd H x (.ins C dx (fs.zip as)))
def uw(P:Sg)(w:Sf)(K:Q7)(mg:Str->Option Se)(base:Sl)(k:Nat)(c:Str)(ps fs:List Str):Prop:=
 ∃C f fd,clsAt K c C/\Mk K C f/\jV P w K mg base (oN P w) k f fd ps (Oc C fs)/\Binds K fd ps []/\mg c=some (.ref C)
def fNew(c:Str)(fs:List Str)(fas:ay->R (List D)):FX:=λρ=>(fas ρ).bind λas=>if as.length=fs.length then .ok (.obj c fs as)else un
def rE{K:Q7}{H1:Hp}{O:List Si}{c:Str}{fs:List Str}{as:List D}{vs:List V}{C x dx:Si}(hc:clsAt K c C)(hl:as.length=fs.length)(d1:bx K (hid H1 O) as vs)(hO:fT H1 O)(hx:H1 x=none)(hd:H1 dx=none)(ne:dx≠x):
  bT H1 (upd (upd (upd H1 dx (.own x)) x (.ins C dx [])) x (.ins C dx (fs.zip vs)))/\dD K (hid (upd (upd (upd H1 dx (.own x)) x (.ins C dx [])) x (.ins C dx (fs.zip vs))) O) (.obj c fs as) (.ref x):=by
 have sm:bT H1 (upd (upd (upd H1 dx (.own x)) x (.ins C dx [])) x (.ins C dx (fs.zip vs))):=λb o h=>by
  have n1:=bH h hx;have n2:=bH h hd;rw[bp n1,bp n1,bp n2];exact h
 exact⟨sm,LK.mpr ⟨x,vs,rfl,d1.mono (cH sm),by rw[<-d1.length,hl],C,dx,hc,by rw[oY (hO.not hx),bI]⟩⟩
def K8{X:Cx}:zU (oN X.prog X.w) X E0:=λ_ _ _ _ _ _ _ h=>by
 obtain⟨_,_,_,_,_,_,_,_,_,_,_,_,_,z⟩:=h;exact z.elim
def Mg{c:Str}{fs:List Str}(IA:uw X.prog X.w X.K X.mg X.base k c ps fs)(hr:gP k' X.A)(hk:k+1<=k')(hg:Gl X c)(ha:FA X (e::es) fas)(hdb:(c==("__debug__":Str))=false:=by decide)
  (hns:(e::es).all noStar=true:=by rfl):FE X (.Call (.Name c p) (e::es) [] pos) (fNew c fs fas):=by
 obtain⟨C,f,fd,h1,h2,h3,h4,h5⟩:=IA;refine PE.weak (GC (dvs:=[]) (E:=E0) h2 h3 (hr.mono hk) hg h5 h4 .nil K8 ha hdb (fN (Pn _ _ ▸ hns).1) (jd (Pn _ _ ▸ hns).2)) λσ H Q ⟨O,ρ,E,hF⟩=>⟨O,ρ,E,(jJ.bind hF).imp λas hF vs H1 s1 d1 x dx hx hd ne=>?_⟩
 by_cases hl:as.length=fs.length
 ·rw[if_pos hl]at hF;rw[O5];refine⟨x,dx,vs,rfl,by rw[<-d1.length,hl],by rw[bI],rfl,?_⟩;obtain⟨sm,dn⟩:=rE h1 hl d1 (E.all.same s1) hx hd ne;exact hF _ _ (s1.trans sm) dn
 ·rw[if_neg hl]at hF;exact hF.elim
def y4(f:Str)(v:V):∀{fs:List (Str×V)},(fs.map (·.1)).contains f=false->mK f v fs=fs++[(f,v)]
 |[],_=>rfl
 |(g,w)::fs,h=>by
  rw[OZ,Qo,Qp]at h;have ne:¬g=f:=λz=>by
   have:=h.1
   rw[z]at this;simp at this
  have:=y4 f v (fs:=fs) h.2
  unfold mK;simp only[ne,if_false,this,PJ]
def Ht(X:Cx)(cs:List Str)(body:List SD)(fs:List Str)(i:Nat):Prop:=
 ∃t,xS X body t/\∀(D:Ends)(σ:St)(H:Hp)(x dx C:Si)(done:List (Str×V))(as:List V),σ[0]?=some (some (.ref x))->(∀j v,as[j]?=some v->σ[i+j]?=some (some v))->as.length=fs.length->Bz X.K C->(∀f∈fs,qx X.K C f)->done.length+fs.length<1000->(done.map (·.1)++fs).Nodup->H x=some (.ins C dx done)->
  D.nx σ (upd H x (.ins C dx (done++fs.zip as)))->t D σ H
def B1{st:SD}{f:Str}{i:Nat}{o v:Sz}{p1 p2:Pos}(hst:st=.Assign [.Attribute o f p1] v p2)(ho:PE X o (uW 0))(hv:PE X v (uW i))(hs:swapsWith v (some (.Attribute o f p1)) p2.line X.env=pure false):Ht X cs [st] [f] i:=by
 subst hst;refine⟨_,AG (IG ho hv hs),λD σ H x dx C done as h0 ha hl cl na hz nd hx q=>?_⟩;obtain⟨a,rfl⟩:∃a,as=[a]:=by
  match as,hl with
  |[a],_=>exact⟨a,rfl⟩
 refine⟨a,ha 0 a rfl,.ref x,h0,x,C,dx,done,rfl,hx,cl,na f (List.mem_singleton.mpr rfl),by simp at hz;omega,?_⟩;rw[y4 f a (by
  have:=nd
  rw[List.nodup_append]at this;have h3:=this.2.2;cases hc:(done.map (·.1)).contains f with
  |false=>rfl
  |true=>exact absurd rfl (h3 f (List.contains_iff_mem.mp hc) f (List.mem_singleton.mpr rfl)))]
 exact q
def Cd{P:Sg}{w:Sf}{K:Q7}{mg:Str->Option Se}{base:Sl}{c qual:Str}{C f:Si}{fd:S7}{st:SD}{fs:List Str}(h1:clsAt K c C)(hM:Mk K C f)(cl:Bz K C)(na:∀g∈fs,qx K C g)(F:uG K "__init__" qual st f fd)(b:Binds K fd ps [])(hmg:mg c=some (.ref C))(SC:aX ps ps (aA st))(hps:ps.length=fs.length+1)(hnd:fs.Nodup)(hlen:fs.length<1000)
  (hb:∀(cdv:Se)(A:Sv)(outer:List Env)(s:Sw)(H:Hp)(E:XK),Ht (kC LY P w K mg base ps qual (aA st) f cdv A outer s H E).nox [] (gr st) fs 1):uw P w K mg base (k+1) c ps fs:=by
 refine⟨C,f,fd,h1,hM,?_,b,hmg⟩;refine jV.any (F.ok SC (λvs H Q E h=>?_) λcdv A outer s H vs Q E hr h=>?_)
 ·obtain⟨x,dx,as,rfl,hl,_⟩:=h;rw[OY,hl,hps]
 ·obtain⟨t,ht,hq⟩:=hb cdv A outer s H E;obtain⟨x,dx,as,rfl,hl,hx,q⟩:=h;have hst:L2.start ps (.ref x::as)=(.ref x::as).map some:=by
   unfold L2.start;rw[OY,hl,hps,Qr,Qs,O5]
  refine⟨t,ht,hq _ _ H x dx C [] as (by rw[hst];rfl) (λj v e=>?_) hl cl na (by simpa using hlen) (by simpa using hnd) hx q⟩;rw[hst,Nat.add_comm,OZ,Qj,Ph,e];rfl
end
end TG
namespace TG
open PySem PySem.Spec L2
variable[bh]
section
variable{X:Cx}
def Ox:D->Option Str
 |.str z=>some z
 |_=>none
def Nu(a b:D):Option D:=match a,b with
 |.bl c,.bl d=>some (.bl (c==d))
 |_,_=>none
def GD(a b:D):Option D:=match a,b with
 |.bl c,.bl d=>some (.bl (!(c==d)))
 |_,_=>none
end
structure N7(K:Q7)(C:Si):Prop where
 makes:Ri K C=true
 init:Ra K (.ref C) "__init__"=some (some (.builtin "object.__init__"))
 kp:Rq K (.ref C)=true
section
variable{X:Cx}{C:Si}{pins:List (Si×Obj)}{σ:St}{H:Hp}{s:Sw}{Q:VK}
def run_plain(M:N7 X.K C)(I:Inv X pins σ H s)(h:∀x dx,H x=none->H dx=none->dx≠x->Q (.ref x) (upd (upd H dx (.own x)) x (.ins C dx []))):
  Sy (model X.prog X.w) X.A (call (.ref C) []) (EP X pins σ Q) X.xe s:=by
 have hq:=h (s.heap.objs.size+1) s.heap.objs.size (I.hok.fresh (O6 _)) (I.hok.fresh (OT _)) (OD (O2 _));have I2:=Inv.made (C:=C) I;have e1:((s.heap.push Rl).push (Q5 C s.heap.objs.size)).get? (s.heap.objs.size+1)=some (Q5 C s.heap.objs.size):=by
  have:=RM (s.heap.push Rl) (o:=Q5 C s.heap.objs.size) rfl
  rwa [RN]at this
 have hb:∀self,Rp (model X.prog X.w) s.heap (bindSpecial (.builtin "object.__init__") self) (.builtin "object.__init__",[self]):=λself=>PySem.W.Looks.of_pure (PySem.W.oi_bind self);refine S9 (Ci I.kIn M.makes M.init hb ?_);have h3:Rp (model X.prog X.w) ((s.heap.push Rl).push (Q5 C s.heap.objs.size)) (isInstance (.ref (s.heap.objs.size+1)) (.type "object")) true:=by
  have h4:Rp (model X.prog X.w) ((s.heap.push Rl).push (Q5 C s.heap.objs.size)) (typeOf (.ref (s.heap.objs.size+1))) (.ref C):=PySem.W.Looks.andThen (PySem.W.Looks.ld e1) PySem.W.Looks.now;exact PySem.W.Looks.andThen h4 (((Rn I.kIn M.makes).top).keeps λb o q=>RL _ (RL _ q))
 refine codeAny_call_builtin (b:=Builtin.«object.__init__») PySem.W.oi_plain PySem.W.entry_oi ?_;have ha:argsOk "object.__init__" {pos:=[Value.ref (s.heap.objs.size+1)],kw:=[]}:=PySem.W.oi_args _;refine PySem.W.check_slot (i:="object.__init__") (owner:="object") (n:="__init__") (self:=Value.ref (s.heap.objs.size+1)) (rest:=[]) (kw:=[]) PySem.W.oi_kind PySem.W.oi_split h3 ha ?_;rw[PySem.W.oi_run];exact SJ ⟨rfl,V.ref (s.heap.objs.size+1),_,I2,rfl,hq⟩
def A0(K:Q7)(mg:Str->Option Se)(c:Str):Prop:=∃C,clsAt K c C/\N7 K C/\mg c=some (.ref C)
def LI{c:Str}{p pos:Pos}(NA:A0 X.K X.mg c)(hg:Gl X c)(hdb:(c==("__debug__":Str))=false:=by decide):FE X (.Call (.Name c p) [] [] pos) (fC (.obj c [] [])):=by
 obtain⟨C,h1,h2,h3⟩:=NA;intro pins s σ H Q I ⟨O,ρ,E,hF⟩;refine Tc (wK I hg h3 ?_ hdb);refine PySem.W.callWith_K0 I.kIn h2.kp (run_plain h2 I λx dx hx hd ne=>?_);obtain⟨sm,dn⟩:=rE (fs:=[]) (as:=[]) (vs:=[]) h1 rfl (dA.mpr rfl) E.all hx hd ne;have e:upd (upd (upd H dx (.own x)) x (.ins C dx [])) x (.ins C dx (([]:List Str).zip []))=upd (upd H dx (.own x)) x (.ins C dx []):=by rw[Gq];rfl
 rw[e]at sm dn;exact hF _ _ sm dn
end
end TG
namespace TG
open PySem PySem.Spec PyProof.Rows L2
variable[bh]
def gC:List D->List D->Option Bool
 |[],[]=>some false
 |[],_::_=>some true
 |_::_,[]=>some false
 |a::as,b::bs=>match a,b with
  |.int i,.int j=>if i=j then gC as bs else some (decide (i<j))
  |.str x,.str y=>if x=y then gC as bs else some (decide (x.cps.toList<y.cps.toList))
  |_,_=>none
inductive iD:List Se->List D->Prop where
 |nil:iD [] []
 |int (i:Int) (t:Tok) {vs:List Se} {ds:List D} (h:iD vs ds):iD (.int i t::vs) (.int i::ds)
 |str (x:Str) (t:Tok) {vs:List Se} {ds:List D} (h:iD vs ds):iD (.str x t::vs) (.str x::ds)
def iD.length:∀{vs:List Se}{ds:List D},iD vs ds->vs.length=ds.length
 |_,_,.nil=>rfl
 |_,_,.int _ _ h=>by rw[OY,OY,h.length]
 |_,_,.str _ _ h=>by rw[OY,OY,h.length]
def Hr(A:Sv)(s:Sw)(a:Int)(t:Tok)(c:Int)(u:Tok):∃e,SeqAt.EqAt A s (.int a t) (.int c u) e/\(e=true↔a=c):=
 ⟨(a==c),SeqAt.EqAt.int_int a t c u,by simp⟩
def G7(A:Sv)(s:Sw)(a:Str)(t:Tok)(c:Str)(u:Tok):∃e,SeqAt.EqAt A s (.str a t) (.str c u) e/\(e=true↔a=c):=
 ⟨(a==c),SeqAt.EqAt.str_str a t c u,by simp⟩
def Kc(A:Sv)(s:Sw)(a:Str)(t:Tok)(c:Str)(u:Tok)(prog:Sg)(w:Sf)(E:Se->Sw->Prop)(Q:Se->Sw->Prop)(h:Q (.bool (decide (a.cps.toList<c.cps.toList))) s):
  Sy (model prog w) A (richCompare .Lt (.str a t) (.str c u)) Q E s:=
 (PySem.P.lt_str h:Sy (model prog w) A (SV .Lt (.str a t) (.str c u)) Q E s)
section
open PySem.SeqAt
open PySem.AutoSeq1 (wpAny_loadPart')
open PySem.MeetsSeq PySem.MeetsSeq2 PySem.MeetsSeq3
set_option maxHeartbeats 1000000 in
def u6(l b:Si)(items items2:Array Se)(n n2:Nat)(dd dd2:Option Si)(sl sl2:Array (Option Se))(ns ms:List D)(r:Bool)(hi:iD items.toList ns)(hj:iD items2.toList ms)(hr:gC ns ms=some r):
  Meets (Builtin.«tuple.__lt__» ⟨[.ref l,.ref b],[]⟩)
   (fun _ R s=>s.heap.get? l=some { cls:=.type "tuple",dict:=dd,data:=.seq items n,slots:=sl }/\s.heap.get? b=some { cls:=.type "tuple",dict:=dd2,data:=.seq items2 n2,slots:=sl2 } /\
    R (.ok (.ret (.bool r))) s):=
 .of_wp λprog w A R s h=>by
  obtain⟨hp,g,d,tk,os⟩:=s;obtain⟨hl,hb,h⟩:=h;have f2:=AutoSeq1.sub_tuple_tuple;have z1:items.size=ns.length:=by rw[<-hi.length];simp
  have z2:items2.size=ms.length:=by rw[<-hj.length];simp
  wp_walk using wpAny_loadPart' hl,wpAny_loadPart' hb,wpAny_forIn_list _ (λrest b s'=>b.1=none/\s'=⟨hp,g,d,tk,os⟩/\∃(vs ws:List Se)(ns' ms':List D),rest=vs.zip ws/\
   iD vs ns'/\iD ws ms'/\ns'.length+items2.size=ms'.length+items.size/\gC ns' ms'=some r/\R (.ok (.ret (.bool r))) ⟨hp,g,d,tk,os⟩) _
  case turn=>
   rintro⟨y,x⟩ rest b s' ⟨hb',rfl,vs,ws,ns',ms',hz,hvi,hwi,hlen,hL,hR⟩;cases hvi with
   |nil=>rw[List.zip_nil_left]at hz;cases hz
   |int a t hvi'=>
    cases hwi with
    |nil=>rw[Qt]at hz;cases hz
    |str c u hwi'=>cases hL
    |int c u hwi'=>
     rw[Qq]at hz;injection hz with hyx hrest;injection hyx with hy hx;subst hy hx;have hL':(if a=c then gC _ _ else some (decide (a<c)))=some r:=hL;simp only[OY]at hlen;obtain⟨e,he,hiff⟩:=Hr A.in1 ⟨hp,g,d,tk,os⟩ a t c u;refine SK (he prog w _ _ ?_);cases e with
     |true=>
      rw[if_pos (hiff.mp rfl)]at hL'
      wp_walk
      exact⟨rfl,rfl,_,_,_,_,hrest,hvi',hwi',by omega,hL',hR⟩
     |false=>
      rw[if_neg (λq=>absurd (hiff.mpr q) OX)]at hL';cases hL';have hri:=HT.KU A.in1 ⟨hp,g,d,tk,os⟩ a t c u prog w
      wp_walk using hri
      exact⟨_,rfl,by simpa using hR⟩
   |str a t hvi'=>
    cases hwi with
    |nil=>rw[Qt]at hz;cases hz
    |int c u hwi'=>cases hL
    |str c u hwi'=>
     rw[Qq]at hz;injection hz with hyx hrest;injection hyx with hy hx;subst hy hx;have hL':(if a=c then gC _ _ else some (decide (a.cps.toList<c.cps.toList)))=some r:=hL;simp only[OY]at hlen;obtain⟨e,he,hiff⟩:=G7 A.in1 ⟨hp,g,d,tk,os⟩ a t c u;refine SK (he prog w _ _ ?_);cases e with
     |true=>
      rw[if_pos (hiff.mp rfl)]at hL'
      wp_walk
      exact⟨rfl,rfl,_,_,_,_,hrest,hvi',hwi',by omega,hL',hR⟩
     |false=>
      rw[if_neg (λq=>absurd (hiff.mpr q) OX)]at hL';cases hL';have hri:=Kc A.in1 ⟨hp,g,d,tk,os⟩ a t c u prog w
      wp_walk using hri
      exact⟨_,rfl,by simpa using hR⟩
  case fin=>
   rintro⟨b1,b2⟩ s' ⟨hb',rfl,vs,ws,ns',ms',hz,hvi,hwi,hlen,hL,hR⟩;simp only at hb';subst hb';have hv:r=decide (items.size<items2.size):=by
    have l1:=hvi.length;have l2:=hwi.length;cases ns' with
    |nil=>
     cases ms' with
     |nil=>
      simp only[Px]at hlen;cases hL;exact(decide_eq_false ‹0›).symm
     |cons c u=>
      simp only[Px,OY]at hlen;cases hL;exact(decide_eq_true ‹0›).symm
    |cons a t=>
     cases ms' with
     |nil=>
      simp only[Px,OY]at hlen;cases hL;exact(decide_eq_false ‹0›).symm
     |cons c u=>
      have:=congrArg List.length hz
      simp only[Px,List.length_zip,l1,l2,OY]at this;omega
   rw[hv]at hR
   wp_walk
   exact⟨_,rfl,by simpa [Builtin.Tuple.tupleCompareSizes]using hR⟩
  case h=>
   exact⟨rfl,rfl,items.toList,items2.toList,ns,ms,rfl,hi,hj,by omega,hr,h⟩
end
section
variable{X:Cx}
def BM{α:Type}{c:Bool}{o:Option α}{a:α}(h:(if c then o else none)=some a):c=true/\o=some a:=by
 cases c with
 |true=>exact⟨rfl,h⟩
 |false=>cases h
def zN{prog:Sg}{w:Sf}{A:Sv}{E:Se->Sw->Prop}{s:Sw}{l b:Si}{items items2:Array Se}{ns ms:List D}{r:Bool}{Q:Se->Sw->Prop}(hl:Sq s.heap l items)(hb:Sq s.heap b items2)(hi:iD items.toList ns)(hj:iD items2.toList ms)(hr:gC ns ms=some r)
  (hu:A.units<S6) (h:Q (.bool r) s):Sy (model prog w) A (SV .Lt (.ref l) (.ref b)) Q E s:=by
 obtain⟨⟨cls,dd,data,sl⟩,ho,hc,n,hd⟩:=id hl;obtain⟨⟨cls2,dd2,data2,sl2⟩,ho2,hc2,n2,hd2⟩:=id hb;simp only at hc hd hc2 hd2;subst hc hd hc2 hd2;exact richCompare_meets_room (op:=.Lt) ⟨_,ho,rfl⟩ ⟨_,ho2,rfl⟩ PySem.F.slot_tuple_lt PySem.F.entry_tuple_lt (PySem.F.args_tuple_lt_2 _ _) (u6 l b items items2 n n2 dd dd2 sl sl2 ns ms r hi hj hr)
  ⟨ho,ho2,show Value.bool r≠Value.notImplemented/\Q (.bool r) s from⟨(λx=>nomatch x),h⟩⟩ hu
def rz:List D->Bool
 |[]=>true
 |.int _::r=>rz r
 |.str _::r=>rz r
 |_=>false
def ly{K:Q7}{H:Hp}:∀{ds:List D}{vs:List V}{us:List Se},rz ds=true->bx K H ds vs->Vals vs us->iD us ds
 |[],vs,us,_,h,r=>by
  rw[dA]at h;subst h;cases r;exact .nil
 |d::ds,vs,us,hf,h,r=>by
  obtain⟨v,r',e,h1,h2⟩:=bP.mp h;subst e;cases r with
  |cons q1 q2=>
   cases d with
   |int i=>
    rw[gG]at h1;subst h1;obtain⟨t,rfl⟩:=q1;exact .int i t (ly hf h2 q2)
   |str x=>
    rw[gJ]at h1;subst h1;obtain⟨t,rfl⟩:=q1;exact .str x t (ly hf h2 q2)
   |_=>cases hf
def ve(a b:D):Option D:=match a,b with
 |.int i,.int j=>some (.bl (decide (i<j)))
 |.str x,.str y=>some (.bl (decide (x.cps.toList<y.cps.toList)))
 |.tup xs,.tup ys=>if rz xs&&rz ys then(gC xs ys).bind λr=>some (.bl r)else none
 |_,_=>none
def qG(hu:X.A.units+64<S6):kA X (SV .Lt) (rD X.K ve):=by
 intro pins s σ H x y u v Q I rx ry ⟨O,a,b,d,hO,ha,hb,hg,q⟩;cases a with
 |int i=>
  cases b with
  |int j=>
   cases hg;exact Kv pins s σ H x y u v Q I rx ry ⟨i,j,gG.mp ha,gG.mp hb,q _ H (bT.refl H) (lM.mpr rfl)⟩
  |_=>cases hg
 |str i=>
  cases b with
  |str j=>
   cases hg;exact CI pins s σ H x y u v Q I rx ry ⟨i,j,gJ.mp ha,gJ.mp hb,q _ H (bT.refl H) (lM.mpr rfl)⟩
  |_=>cases hg
 |tup xs=>
  cases b with
  |tup ys=>
   obtain⟨h1,h2⟩:=BM hg;obtain⟨r,e1,e2⟩:=bind_some h2;cases e2;rw[Pn]at h1;obtain⟨p,vs,ex,g1,g2⟩:=cZ.mp ha;obtain⟨p',vs',ey,g1',g2'⟩:=cZ.mp hb;subst ex ey;cases rx;cases ry;obtain⟨its,r1,t1,_⟩:=I.tuple (cE (aU H O) g1);obtain⟨its2,r2,t2,_⟩:=I.tuple (cE (aU H O) g1');exact zN t1 t2 (ly h1.1 g2 r1) (ly h1.2 g2' r2) e1 ‹0› (Df I (q _ H (bT.refl H) (lM.mpr rfl)) rfl)
  |_=>cases hg
 |_=>cases hg
end
end TG
namespace TG
open PySem PySem.Spec L2
variable[bh]
def lu(x:Str)(n:Int):Str:=if(n==1||x.length==0)=true then x else⟨(List.replicate n.toNat x.cps).foldl (·++·) #[]⟩
def foldl_size:∀(n:Nat)(c a:Array Nat),((List.replicate n c).foldl (·++·) a).size=a.size+n*c.size
 |0,_,a=>by simp
 |n+1,c,a=>by
  rw[Qu,Qv,foldl_size n c,Array.size_append,Nat.succ_mul];omega
def yT{x:Str}{n:Int}(h:1<=n):(lu x n).length=n.toNat*x.length:=by
 unfold lu;split
 ·rename_i q;rw[P0]at q;rcases q with q|q
  ·have:n=1:=(by simpa using q);rw[this];simp
  ·have:x.length=0:=(by simpa using q);rw[this];simp
 ·show((List.replicate n.toNat x.cps).foldl (·++·) #[]).size=n.toNat*x.cps.size;rw[foldl_size];simp
def ub(a b:D):Option D:=match a,b with
 |.int i,.int j=>oI (.int i) (.int j)
 |.str x,.int n=>if decide (1<=n/\n<=1000/\x.length<=1000)then some (.str (lu x n))else none
 |_,_=>none
section
variable{X:Cx}
def p9:kA X (SU .Mult) (rD X.K ub):=by
 intro pins s σ H x y u v Q I rx ry ⟨O,a,b,d,hO,ha,hb,hg,q⟩;cases a with
 |int i=>
  cases b with
  |int j=>exact jS pins s σ H x y u v Q I rx ry (jM (.int i) (.int j) d x y O H Q hO hg ha hb q)
  |_=>cases hg
 |str z=>
  cases b with
  |int n=>
   obtain⟨h1,h2⟩:=cq hg;subst h2;obtain⟨n1,n2,zl⟩:=of_decide_eq_true h1;rw[gJ]at ha;rw[gG]at hb;subst ha hb;obtain⟨t,rfl⟩:=rx;obtain⟨t',rfl⟩:=ry;have zn:z.length*n.toNat<=1000*1000:=Nat.mul_le_mul zl ‹0›;refine P.mul_str (by rw[decide_eq_false ‹0›,decide_eq_false ‹0›];rfl) (λ_ _=>?_) (λ_ _=>?_) ?_
   ·have:(2^63-1:Int)/n>=(2^63-1)/1000:=by
     rw[ge_iff_le,Int.le_ediv_iff_mul_le ‹0›];have h3:(2^63-1:Int)/1000*n<=(2^63-1)/1000*1000:=Int.mul_le_mul_of_nonneg_left n2 (by decide);have h4:(2^63-1:Int)/1000*1000<=2^63-1:=(by decide);omega
    have h5:(2^63-1:Int)/1000=9223372036854775:=(by decide);omega
   ·unfold Builtin.Str.tooLong;rw[decide_eq_false];rw[SZ];omega
   ·rw[if_neg ‹0›];have fin:∀tk,EP X pins σ Q (.str (lu z n) tk) {s with toks:=s.toks+1}/\EP X pins σ Q (.str (lu z n) tk) s:=λtk=>⟨⟨.str (lu z n),H,I.tok _,⟨_,rfl⟩,q _ H (bT.refl H) (gJ.mpr rfl)⟩,⟨.str (lu z n),H,I,⟨_,rfl⟩,q _ H (bT.refl H) (gJ.mpr rfl)⟩⟩
    by_cases e:(n==1||z.length==0)=true
    ·rw[if_pos e]
     have:lu z n=z:=(by unfold lu;rw[if_pos e]);rw[this]at fin;exact(fin t).2
    ·rw[if_neg e];have e2:lu z n=⟨(List.replicate n.toNat z.cps).foldl (·++·) #[]⟩:=(by unfold lu;rw[if_neg e]);rw[e2]at fin;refine⟨?_,(fin _).1⟩;have rl:=yT (x:=z) (n:=n) ‹0›;rw[e2]at rl;rw[rl,SZ,Nat.mul_comm];omega
  |_=>cases hg
 |_=>cases hg
end
end TG
namespace TG
open PySem PySem.Spec PyProof.Rows PySem.W L2
variable[bh]
def sK:∀a:List Nat,¬a<a
 |[]=>Qw _
 |x::xs=>λh=>by
  rcases List.cons_lt_cons_iff.mp h with h|⟨_,h⟩
  ·omega
  ·exact sK xs h
def nz:∀{a b c:List Nat},a<b->b<c->a<c
 |_,_,[],_,h=>absurd h (Qw _)
 |_,[],_::_,h,_=>absurd h (Qw _)
 |[],_::_,_::_,_,_=>Qx _ _
 |x::xs,y::ys,z::zs,h,h'=>by
  rw[Qy]at h h' ⊢;rcases h with h|⟨e,h⟩<;>rcases h' with h'|⟨e',h'⟩
  ·exact .inl ‹0›
  ·exact .inl ‹0›
  ·exact .inl ‹0›
  ·exact .inr ⟨by omega,nz h h'⟩
def Ez:∀a b:List Nat,a<b\/a=b\/b<a
 |[],[]=>.inr (.inl rfl)
 |[],_::_=>.inl (Qx _ _)
 |_::_,[]=>.inr (.inr (Qx _ _))
 |x::xs,y::ys=>by
  rw[Qy,Qy];rcases Nat.lt_trichotomy x y with h|h|h
  ·exact .inl (.inl h)
  ·rcases Ez xs ys with q|q|q
   ·exact .inl (.inr ⟨h,q⟩)
   ·exact .inr (.inl (by rw[h,q]))
   ·exact .inr (.inr (.inr ⟨h.symm,q⟩))
  ·exact .inr (.inr (.inl h))
def EB{x y:Str}(h:x.cps.toList=y.cps.toList):x=y:=by
 cases x;cases y;congr 1;exact Array.toList_inj.mp h
inductive Sh:List Bool->List D->Prop where
 |nil:Sh [] []
 |int (i:Int) {bs:List Bool} {ds:List D} (h:Sh bs ds):Sh (true::bs) (.int i::ds)
 |str (x:Str) {bs:List Bool} {ds:List D} (h:Sh bs ds):Sh (false::bs) (.str x::ds)
def Sh.length:∀{σ:List Bool}{a:List D},Sh σ a->a.length=σ.length
 |_,_,.nil=>rfl
 |_,_,.int _ h=>by rw[OY,OY,h.length]
 |_,_,.str _ h=>by rw[OY,OY,h.length]
def sy:∀{σ:List Bool}{a:List D},Sh σ a->rz a=true
 |_,_,.nil=>rfl
 |_,_,.int i h=>by
  unfold rz;exact sy h
 |_,_,.str i h=>by
  unfold rz;exact sy h
def tR(i j:Int)(as bs:List D):gC (.int i::as) (.int j::bs)=if i=j then gC as bs else some (decide (i<j)):=by rw[gC]
def sS(x y:Str)(as bs:List D):gC (.str x::as) (.str y::bs)=if x=y then gC as bs else some (decide (x.cps.toList<y.cps.toList)):=by rw[gC]
def EE:gC [] []=some false:=by rw[gC]
def nU:∀{σ:List Bool}{a:List D},Sh σ a->gC a a=some false
 |_,_,.nil=>EE
 |_,_,.int i h=>by rw[tR,if_pos rfl];exact nU h
 |_,_,.str x h=>by rw[sS,if_pos rfl];exact nU h
def ot:∀{σ:List Bool}{a b:List D},Sh σ a->Sh σ b->(gC a b=some true/\gC b a=some false/\a≠b)\/a=b\/(gC b a=some true/\gC a b=some false/\a≠b)
 |_,_,_,.nil,.nil=>.inr (.inl rfl)
 |_,_,_,.int i h,.int j h'=>by
  rw[tR,tR];by_cases e:i=j
  ·subst e;rw[if_pos rfl,if_pos rfl];rcases ot h h' with⟨q1,q2,q3⟩|q|⟨q1,q2,q3⟩
   ·exact .inl ⟨q1,q2,λz=>q3 (by injection z)⟩
   ·exact .inr (.inl (by rw[q]))
   ·exact .inr (.inr ⟨q1,q2,λz=>q3 (by injection z)⟩)
  ·rw[if_neg e,if_neg (λz=>e z.symm)];rcases Int.lt_or_gt_of_ne e with q|q
   ·exact .inl ⟨by rw[decide_eq_true q],by rw[decide_eq_false ‹0›],λz=>e (by injection z with z1;injection z1)⟩
   ·exact .inr (.inr ⟨by rw[decide_eq_true q],by rw[decide_eq_false ‹0›],λz=>e (by injection z with z1;injection z1)⟩)
 |_,_,_,.str x h,.str y h'=>by
  rw[sS,sS];by_cases e:x=y
  ·subst e;rw[if_pos rfl,if_pos rfl];rcases ot h h' with⟨q1,q2,q3⟩|q|⟨q1,q2,q3⟩
   ·exact .inl ⟨q1,q2,λz=>q3 (by injection z)⟩
   ·exact .inr (.inl (by rw[q]))
   ·exact .inr (.inr ⟨q1,q2,λz=>q3 (by injection z)⟩)
  ·rw[if_neg e,if_neg (λz=>e z.symm)];rcases Ez x.cps.toList y.cps.toList with q|q|q
   ·exact .inl ⟨by rw[decide_eq_true q],by rw[decide_eq_false λz=>sK _ (nz q z)],λz=>e (by injection z with z1;injection z1)⟩
   ·exact absurd (EB q) e
   ·exact .inr (.inr ⟨by rw[decide_eq_true q],by rw[decide_eq_false λz=>sK _ (nz q z)],λz=>e (by injection z with z1;injection z1)⟩)
def oh:∀{σ:List Bool}{a b c:List D},Sh σ a->Sh σ b->Sh σ c->gC a b=some true->gC b c=some true->gC a c=some true
 |_,_,_,_,.nil,.nil,.nil,h,_=>by rw[EE]at h;cases h
 |_,_,_,_,.int i h,.int j h',.int k h'',q,q'=>by
  rw[tR]at q q' ⊢;by_cases e:i=j
  ·subst e;rw[if_pos rfl]at q;by_cases e':i=k
   ·subst e';rw[if_pos rfl]at q' ⊢;exact oh h h' h'' q q'
   ·rw[if_neg e']at q' ⊢;exact q'
  ·rw[if_neg e]at q;have q1:=of_decide_eq_true (Option.some.inj q);by_cases e':j=k
   ·subst e';rw[if_neg e,decide_eq_true q1]
   ·rw[if_neg e']at q';have q2:=of_decide_eq_true (Option.some.inj q');rw[if_neg ‹0›,decide_eq_true ‹0›]
 |_,_,_,_,.str i h,.str j h',.str k h'',q,q'=>by
  rw[sS]at q q' ⊢;by_cases e:i=j
  ·subst e;rw[if_pos rfl]at q;by_cases e':i=k
   ·subst e';rw[if_pos rfl]at q' ⊢;exact oh h h' h'' q q'
   ·rw[if_neg e']at q' ⊢;exact q'
  ·rw[if_neg e]at q;have q1:=of_decide_eq_true (Option.some.inj q);by_cases e':j=k
   ·subst e';rw[if_neg e,decide_eq_true q1]
   ·rw[if_neg e']at q';have q2:=of_decide_eq_true (Option.some.inj q');rw[if_neg (show¬i=k from λz=>by rw[z]at q1;exact sK _ (nz q1 q2)),decide_eq_true (nz q1 q2)]
def EW{σ:List Bool}{a b:List D}(h:Sh σ a)(h':Sh σ b)(q:gC a b=some true):gC b a=some false:=by
 rcases ot h h' with⟨_,q2,_⟩|e|⟨_,q2,_⟩
 ·exact q2
 ·subst e;rw[nU h]at q;cases q
 ·rw[q2]at q;cases q
def kLt(a b:List D):Bool:=gC a b==some true
def GN{a b:List D}:kLt a b=true↔gC a b=some true:=by unfold kLt;simp
section
variable{α:Type}
def CP(key:α->List D)(x:α):List α->List α
 |[]=>[x]
 |y::ys=>if kLt (key x) (key y)then x::y::ys else y::CP key x ys
def jq(key:α->List D):List α->List α
 |[]=>[]
 |x::xs=>CP key x (jq key xs)
def qR(key:α->List D)(x:α):∀ys:List α,(CP key x ys).Perm (x::ys)
 |[]=>.refl _
 |y::ys=>by
  unfold CP;split
  ·exact .refl _
  ·exact(List.Perm.cons y (qR key x ys)).trans (.swap x y ys)
def gU(key:α->List D):∀xs:List α,(jq key xs).Perm xs
 |[]=>.refl _
 |x::xs=>(qR key x _).trans (.cons x (gU key xs))
def yB(key:α->List D)(xs:List α):Prop:=xs.Pairwise λx y=>gC (key x) (key y)=some true
def yh{key:α->List D}{σ:List Bool}{x:α}(hx:Sh σ (key x)):∀{ys:List α},(∀y∈ys,Sh σ (key y)/\key x≠key y)->yB key ys->yB key (CP key x ys)
 |[],_,_=>List.pairwise_singleton _ _
 |y::ys,h,p=>by
  have p':=List.pairwise_cons.mp p;obtain⟨hy,ne⟩:=h y OJ;unfold CP;split
  ·rename_i q;have q:=GN.mp q;refine List.pairwise_cons.mpr ⟨λz hz=>?_,p⟩;rcases List.mem_cons.mp hz with rfl|hz
   ·exact q
   ·exact oh hx hy (h z (OL _ hz)).1 q (p'.1 z hz)
  ·rename_i q;have q:gC (key y) (key x)=some true:=by
    rcases ot hx hy with⟨z,_⟩|z|⟨z,_⟩
    ·exact absurd (GN.mpr z) q
    ·exact absurd z ne
    ·exact z
   refine List.pairwise_cons.mpr ⟨λz hz=>?_,yh hx (λz hz=>h z (OL _ hz)) p'.2⟩;rcases List.mem_cons.mp ((qR key x ys).mem_iff.mp hz)with rfl|hz
   ·exact q
   ·exact p'.1 z hz
def q5{key:α->List D}{σ:List Bool}:∀{xs:List α},(∀x∈xs,Sh σ (key x))->xs.Pairwise (λx y=>key x≠key y)->yB key (jq key xs)
 |[],_,_=>List.Pairwise.nil
 |x::xs,h,p=>by
  have p':=List.pairwise_cons.mp p;refine yh (h x OJ) (λy hy=>?_) (q5 (λy hy=>h y (OL _ hy)) p'.2);have hy:=(gU key xs).mem_iff.mp hy;exact⟨h y (OL _ hy),p'.1 y hy⟩
def Bu{key:α->List D}{σ:List Bool}:∀{xs ys:List α},(∀x∈xs,Sh σ (key x))->yB key xs->yB key ys->xs.Perm ys->xs=ys
 |[],ys,_,_,_,e=>(List.perm_nil.mp e.symm).symm
 |x::xs,[],_,_,_,e=>List.perm_nil.mp e
 |x::xs,y::ys,h,p,q,e=>by
  have p':=List.pairwise_cons.mp p;have q':=List.pairwise_cons.mp q;have exy:x=y:=by
   rcases List.mem_cons.mp (e.mem_iff.mp OJ)with z|z
   ·exact z
   ·have w1:=q'.1 x z;rcases List.mem_cons.mp (e.symm.mem_iff.mp OJ)with z'|z'
    ·exact z'.symm
    ·have w2:=p'.1 y z'
     have:=EW (h x OJ) (h y (OL _ z')) w2
     rw[w1]at this;cases this
  subst exy;rw[Bu (λz hz=>h z (OL _ hz)) p'.2 q'.2 (List.Perm.cons_inv e)]
def yv{key:α->List D}{σ:List Bool}{xs ys:List α}(h:∀x∈xs,Sh σ (key x))(p:xs.Pairwise λx y=>key x≠key y)(q:yB key ys)(e:ys.Perm xs):jq key xs=ys:=
 Bu (λx hx=>h x ((gU key xs).mem_iff.mp hx)) (q5 h p) q ((gU key xs).trans e.symm)
def rank(ks:List (List D))(i:Nat):Nat:=(ks.filter λk=>kLt k (ks.getD i [])).length
def sj{ks:List (List D)}{σ:List Bool}(h:∀k∈ks,Sh σ k){i j:Nat}(hi:i<ks.length)(hj:j<ks.length):decide (rank ks i<rank ks j)=kLt (ks.getD i []) (ks.getD j []):=by
 have gi:ks.getD i []=ks[i]:=by simp[hi]
 have gj:ks.getD j []=ks[j]:=by simp[hj]
 have mono:∀a b:List D,Sh σ a->Sh σ b->gC a b=some true->∀l:List (List D),(∀k∈l,Sh σ k)->(l.filter λk=>kLt k a).length<=(l.filter λk=>kLt k b).length/\(a∈l->(l.filter λk=>kLt k a).length<(l.filter λk=>kLt k b).length):=by
  intro a b ha hb hab l
  induction l with
  |nil=>exact λ_=>⟨OT _,λz=>nomatch z⟩
  |cons k l ih=>
   intro hl;obtain⟨i1,i2⟩:=ih λz hz=>hl z (OL _ hz);have hk:=hl k OJ;by_cases q:kLt k a=true
   ·have q':kLt k b=true:=GN.mpr (oh hk ha hb (GN.mp q) hab);rw[Qz (p:=λk=>kLt k a) q,Qz (p:=λk=>kLt k b) q',OY,OY];refine⟨by omega,λz=>?_⟩;rcases List.mem_cons.mp z with rfl|z
    ·rw[GN,nU ha]at q;cases q
    ·have:=i2 z;omega
   ·rw[QA (p:=λk=>kLt k a) q];by_cases q':kLt k b=true
    ·rw[Qz (p:=λk=>kLt k b) q',OY];exact⟨by omega,λ_=>by omega⟩
    ·rw[QA (p:=λk=>kLt k b) q'];refine⟨i1,λz=>?_⟩;rcases List.mem_cons.mp z with rfl|z
     ·exact absurd (GN.mpr hab) q'
     ·exact i2 z
 unfold rank;rw[gi,gj];have hi':=h _ (QB hi);have hj':=h _ (QB hj);rcases ot hi' hj' with⟨z,_⟩|z|⟨z,z',_⟩
 ·rw[GN.mpr z];exact decide_eq_true ((mono _ _ hi' hj' z ks h).2 (QB hi))
 ·rw[z]
  have:kLt ks[j] ks[j]=false:=by unfold kLt;rw[nU hj'];rfl
  rw[this];exact decide_eq_false (OC _)
 ·have e:kLt ks[i] ks[j]=false:=by unfold kLt;rw[z'];rfl
  rw[e];exact decide_eq_false (Nat.not_lt.mpr (mono _ _ hj' hi' z ks h).1)
end
section
variable{cmp:Nat->Nat->(Bool->Sw->Prop)->Sw->Prop}{r:Nat->Nat}{N:Nat}
def nq(cmp:Nat->Nat->(Bool->Sw->Prop)->Sw->Prop)(r:Nat->Nat)(N:Nat)(s:Sw):Prop:=∀(i j:Nat)(C:Bool->Sw->Prop),i<N->j<N->C (decide (r i<r j)) s->cmp i j C s
def PM(N:Nat)(p:Array Nat):Prop:=p.Perm (List.toArray (List.range N))
def PM.size{p:Array Nat}(h:PM N p):p.size=N:=by
 have:=h.size_eq;simpa using this
def PM.lt{p:Array Nat}(h:PM N p){i:Nat}(hi:i<N):p.getD i 0<N:=by
 have hs:=h.size;have e:p.getD i 0=p[i]'‹0›:=by simp[Array.getD,hs,hi]
 rw[e];have m:p[i]'‹0›∈p:=Array.getElem_mem _
 have:=(h.mem_iff (a:=p[i]'‹0›)).mp m
 simpa using this
def PM.rev{p:Array Nat}(h:PM N p)(i j:Nat):PM N (kas_rev p i j):=(mirror_perm p i j _).trans h
abbrev Rk(r:Nat->Nat)(p:Array Nat)(i:Nat):Nat:=r (p.getD i 0)
def wU{p:Array Nat}{i j:Nat}(hj:j<=p.size)(k:Nat):Rk r (kas_rev p i j) k=if i<=k/\k<j then Rk r p (i+j-1-k)else Rk r p k:=by
 have e:=getElem?_mirror_all (xs:=p) (i:=i) (j:=j) hj k;have g:∀(q:Array Nat)(k:Nat),q.getD k 0=(q[k]?).getD 0:=λq k=>by simp
 show r ((kas_rev p i j).getD k 0)=_;rw[g];show r (((mirror p i j ((j-i)/2))[k]?).getD 0)=_;rw[e];split
 ·show _=r (p.getD _ 0);rw[g]
 ·show _=r (p.getD _ 0);rw[g]
def DE{p:Array Nat}{src d:Nat}(hs:src<p.size)(hd:d<=src)(k:Nat):Rk r (bubble p src d) k=if k=src-d then Rk r p src else if src-d<k/\k<=src then Rk r p (k-1)else Rk r p k:=by
 have e:=getElem?_bubble (xs:=p) hs d hd k;have g:∀(q:Array Nat)(k:Nat),q.getD k 0=(q[k]?).getD 0:=λq k=>by simp
 show r ((bubble p src d).getD k 0)=_;rw[g,e];split
 ·show _=r (p.getD _ 0);rw[g]
 ·split
  ·show _=r (p.getD _ 0);rw[g]
  ·show _=r (p.getD _ 0);rw[g]
def Up(r:Nat->Nat)(p:Array Nat)(k:Nat):Prop:=∀i j,i<=j->j<k->Rk r p i<=Rk r p j
def Dn(r:Nat->Nat)(p:Array Nat)(k:Nat):Prop:=∀i j,i<=j->j<k->Rk r p j<=Rk r p i
variable{s:Sw}
def zq(hc:nq cmp r N s){p:Array Nat}(hp:PM N p){G:Nat->Sw->Prop}:∀(f n:Nat),1<=n->n+f<=N->Up r p n->(∀m,n<=m->m<=n+f->Up r p m->(m=n+f\/Rk r p m<Rk r p (m-1))->G m s)->(kas_asc p f n).kasWp cmp G s
 |0,n,_,_,u,h=>h n (OT _) (OT _) u (.inl rfl)
 |f+1,n,h1,h2,u,h=>by
  refine hc _ _ _ (hp.lt ‹0›) (hp.lt ‹0›) ?_;by_cases q:Rk r p n<Rk r p (n-1)
  ·rw[decide_eq_true q];dsimp only;rw[if_pos rfl];exact h n (OT _) ‹0› u (.inr q)
  ·rw[decide_eq_false q];dsimp only;rw[if_neg OX];refine zq hc hp f (n+1) ‹0› ‹0› (λi j hij hj=>?_) λm a b=>?_
   ·by_cases hjn:j<n
    ·exact u i j hij hjn
    ·have ej:j=n:=(by omega);subst ej;by_cases ei:i=j
     ·subst ei;exact OT _
     ·have:=u i (j-1) ‹0› ‹0›
      omega
   ·intro um hm;exact h m ‹0› ‹0› um (by rcases hm with z|z;exact .inl ‹0›;exact .inr z)
def E6{p:Array Nat}{n q:Nat}(hn:n<=p.size)(hq:q+1<=n)(he:∀i,n-(q+1)<=i->i<n->Rk r p i=Rk r p (n-1))(k:Nat):Rk r (kas_rev p (n-(q+1)) n) k=Rk r p k:=by
 rw[wU hn];split
 ·rename_i h;rw[he _ ‹0› ‹0›,he k h.1 h.2]
 ·rfl
def sE(hc:nq cmp r N s){G:Array Nat×Nat×Nat->Sw->Prop}:∀(f:Nat)(p:Array Nat)(n q:Nat),PM N p->1<=n->n+f<=N->Dn r p n->q+1<=n->(∀i,n-(q+1)<=i->i<n->Rk r p i=Rk r p (n-1))->
  (∀p' m q',PM N p'->n<=m->m<=n+f->Dn r p' m->q'+1<=m->(∀i,m-(q'+1)<=i->i<m->Rk r p' i=Rk r p' (m-1))->G (p',m,q') s)->(kas_desc f p n q).kasWp cmp G s
 |0,p,n,q,hp,_,_,d,hq,he,h=>h p n q hp (OT _) (OT _) d hq he
 |f+1,p,n,q,hp,h1,h2,d,hq,he,h=>by
  have hs:=hp.size;have step:∀p',(∀k,Rk r p' k=Rk r p k)->Rk r p n<=Rk r p (n-1)->Dn r p' (n+1):=λp' hk hl i j hij hj=>by
   rw[hk,hk];by_cases hjn:j<n
   ·exact d i j hij hjn
   ·have ej:j=n:=(by omega);subst ej;by_cases ei:i=j
    ·subst ei;exact OT _
    ·have:=d i (j-1) ‹0› ‹0›
     omega
  refine hc _ _ _ (hp.lt ‹0›) (hp.lt ‹0›) ?_;by_cases q1:Rk r p n<Rk r p (n-1)
  ·rw[decide_eq_true q1];dsimp only;rw[if_pos rfl];by_cases hq0:q>0
   ·rw[if_pos hq0];refine sE hc f _ (n+1) 0 (hp.rev _ _) ‹0› ‹0› (step _ (E6 ‹0› hq he) ‹0›) ‹0› (λi a b=>by rw[show i=n+1-1 by omega]) λp' m q' a b c=>h p' m q' a ‹0› ‹0›
   ·rw[if_neg hq0];refine sE hc f _ (n+1) 0 hp ‹0› ‹0› (step _ (λ_=>rfl) ‹0›) ‹0› (λi a b=>by rw[show i=n+1-1 by omega]) λp' m q' a b c=>h p' m q' a ‹0› ‹0›
  ·rw[decide_eq_false q1];dsimp only;rw[if_neg OX];refine hc _ _ _ (hp.lt ‹0›) (hp.lt ‹0›) ?_;by_cases q2:Rk r p (n-1)<Rk r p n
   ·rw[decide_eq_true q2];dsimp only;rw[if_pos rfl];exact h p n q hp (OT _) ‹0› d hq he
   ·rw[decide_eq_false q2];dsimp only;rw[if_neg OX];refine sE hc f _ (n+1) (q+1) hp ‹0› ‹0› (step _ (λ_=>rfl) ‹0›) ‹0› (λi a b=>?_) λp' m q' a b c=>h p' m q' a ‹0› ‹0›;rw[show n+1-1=n by omega];by_cases ei:i=n
    ·subst ei;rfl
    ·have:=he i ‹0› ‹0›
     omega
def y9(hc:nq cmp r N s){p:Array Nat}(hp:PM N p){n:Nat}(h1:1<=n)(hn:n<=N)(d:Dn r p n){G:Nat×Array Nat->Sw->Prop}(h:∀m p',PM N p'->1<=m->m<=N->Up r p' m->G (m,p') s):(kas_tail3 n N p).kasWp cmp G s:=by
 unfold kas_tail3;rw[KasT.kasWp_bind];have hs:=hp.size;refine zq hc (hp.rev 0 n) _ _ h1 ‹0› (λi j hij hj=>?_) λm a b u _=>h m _ (hp.rev 0 n) ‹0› ‹0› u;rw[wU ‹0›,wU ‹0›,if_pos ‹0›,if_pos ‹0›];exact d _ _ ‹0› ‹0›
def rG(hc:nq cmp r N s){p:Array Nat}(hp:PM N p){n:Nat}(hn:n+1<=N)(d:Dn r p (n+1)){G:Nat×Array Nat->Sw->Prop}(h:∀m p',PM N p'->1<=m->m<=N->Up r p' m->G (m,p') s):(kas_descPart n N p).kasWp cmp G s:=by
 unfold kas_descPart;rw[KasT.kasWp_bind];refine sE hc _ _ _ _ hp ‹0› ‹0› d ‹0› (λi a b=>by rw[show i=n+1-1 by omega]) λp' m q' hp' a b d' hq he=>?_;have hs:=hp'.size;dsimp only;by_cases hq0:q'>0
 ·rw[if_pos hq0];refine y9 hc (hp'.rev _ _) ‹0› ‹0› (λi j hij hj=>?_) h;rw[E6 ‹0› hq he,E6 ‹0› hq he];exact d' i j hij hj
 ·rw[if_neg hq0];exact y9 hc hp' ‹0› ‹0› d' h
def DY(hc:nq cmp r N s)(h1:1<=N){p:Array Nat}(hp:PM N p){G:Nat×Array Nat->Sw->Prop}(h:∀m p',PM N p'->1<=m->m<=N->Up r p' m->G (m,p') s):(kas_count N p).kasWp cmp G s:=by
 unfold kas_count;rw[KasT.kasWp_bind];have hs:=hp.size;refine zq hc hp _ _ (OT _) ‹0› (λi j hij hj=>by rw[show i=j by omega];exact OT _) λn a b u hor=>?_;by_cases hn:n=N
 ·rw[if_pos (by simpa using hn)];exact h n p hp a ‹0› u
 ·rw[if_neg (by simpa using hn)];have hlt:Rk r p n<Rk r p (n-1):=by
   rcases hor with z|z
   ·omega
   ·exact z
  by_cases hg:n>1
  ·rw[if_pos hg];refine hc _ _ _ (hp.lt ‹0›) (hp.lt ‹0›) ?_;by_cases q:Rk r p 0<Rk r p (n-1)
   ·rw[decide_eq_true q];dsimp only;rw[if_pos rfl];exact h n p hp a ‹0› u
   ·rw[decide_eq_false q];dsimp only;rw[if_neg OX];have hall:∀k,k<n->Rk r p k=Rk r p (n-1):=λk hk=>by
     have a1:=u 0 k ‹0› hk;have a2:=u k (n-1) ‹0› ‹0›;omega
    have hr:∀k,Rk r (kas_rev p 0 n) k=Rk r p k:=λk=>by
     rw[wU ‹0›];split
     ·rename_i z;rw[hall _ ‹0›,hall k z.2]
     ·rfl
    refine rG hc (hp.rev _ _) ‹0› (λi j hij hj=>?_) h;rw[hr,hr];by_cases hjn:j<n
    ·rw[hall i ‹0›,hall j hjn];exact OT _
    ·have ej:j=n:=(by omega);subst ej;by_cases ei:i=j
     ·subst ei;exact OT _
     ·rw[hall i ‹0›];omega
  ·rw[if_neg hg];have en:n=1:=(by omega);subst en;refine rG hc hp ‹0› (λi j hij hj=>?_) h;by_cases ei:i=j
   ·subst ei;exact OT _
   ·have e0:i=0:=(by omega);have e1:j=1:=(by omega);subst e0 e1;exact OH hlt
def uA(hc:nq cmp r N s){p:Array Nat}(hp:PM N p){k:Nat}(hk:k<N)(u:Up r p k){G:Nat->Sw->Prop}(h:∀l,l<=k->(∀i,i<l->Rk r p i<=Rk r p k)->(∀i,l<=i->i<k->Rk r p k<Rk r p i)->G l s):
  ∀(f l t:Nat),t-l<=f->l<=t->t<=k->(∀i,i<l->Rk r p i<=Rk r p k)->(∀i,t<=i->i<k->Rk r p k<Rk r p i)->(kas_place p k f l t).kasWp cmp G s
 |0,l,t,a,b,c,d,e=>h l ‹0› d λi x y=>e i ‹0› y
 |f+1,l,t,a,b,c,d,e=>by
  unfold kas_place;by_cases hl:l>=t
  ·rw[if_pos hl];exact h l ‹0› d λi x y=>e i ‹0› y
  ·rw[if_neg hl];refine hc _ _ _ (hp.lt hk) (hp.lt ‹0›) ?_;by_cases q:Rk r p k<Rk r p ((l+t)/2)
   ·rw[decide_eq_true q];dsimp only;rw[if_pos rfl];refine uA hc hp hk u h f l ((l+t)/2) ‹0› ‹0› ‹0› d λi x y=>?_
    have:=u ((l+t)/2) i x y
    omega
   ·rw[decide_eq_false q];dsimp only;rw[if_neg OX];refine uA hc hp hk u h f ((l+t)/2+1) t ‹0› ‹0› ‹0› (λi x=>?_) e
    have:=u i ((l+t)/2) ‹0› ‹0›
    omega
def EK(hc:nq cmp r N s){G:Array Nat->Sw->Prop}(h:∀p,PM N p->Up r p N->G p s):∀(f:Nat)(p:Array Nat)(k:Nat),PM N p->k+f=N->Up r p k->(kas_bin f p k).kasWp cmp G s
 |0,p,k,hp,e,u=>h p hp (by rw[<-e];exact u)
 |f+1,p,k,hp,e,u=>by
  unfold kas_bin;rw[KasT.kasWp_bind];have hs:=hp.size;refine uA hc hp ‹0› u (λl hl d e'=>?_) k 0 k ‹0› (O3 _) (OT _) (λi x=>by omega) λi x y=>by omega
  refine EK hc h f _ (k+1) ((bubble_perm p k _).trans hp) ‹0› λi j hij hj=>?_;rw[DE ‹0› ‹0›,DE ‹0› ‹0›,show k-(k-l)=l by omega];have U:=u;by_cases i1:i=l
  ·rw[if_pos i1];by_cases j1:j=l
   ·rw[if_pos j1];exact OT _
   ·rw[if_neg j1,if_pos ‹0›];exact OH (e' (j-1) ‹0› ‹0›)
  ·rw[if_neg i1];by_cases i2:l<i/\i<=k
   ·rw[if_pos i2,if_neg ‹0›,if_pos ‹0›];exact U _ _ ‹0› ‹0›
   ·rw[if_neg i2];by_cases j1:j=l
    ·rw[if_pos j1];exact d i ‹0›
    ·rw[if_neg j1];by_cases j2:l<j/\j<=k
     ·rw[if_pos j2];exact U _ _ ‹0› ‹0›
     ·rw[if_neg j2];exact U _ _ hij ‹0›
def Av(hc:nq cmp r N s)(h2:1<=N){G:Array Nat->Sw->Prop}(h:∀p,PM N p->Up r p N->G p s):(kas_sort N).kasWp cmp G s:=by
 unfold kas_sort;rw[KasT.kasWp_bind];refine DY hc h2 (Array.Perm.refl _) λm p' hp a b u=>?_;dsimp only;by_cases hm:m<N
 ·rw[if_pos hm,show max m 1=m by omega];exact EK hc h _ p' m hp ‹0› u
 ·rw[if_neg hm];exact h p' hp (by rw[show N=m by omega];exact u)
end
section
variable{prog:Sg}{w:Sf}{A:Sv}{E:Se->Sw->Prop}{s:Sw}
def uP{a:Si}{vs:List Se}{n:Nat}{P:PySem.Fin->Sw->Prop}{κ:TZ}{r:Nat->Nat}(ho:s.heap.get? a=some (seqObj "list" vs.toArray n))(h64:vs.length<64)
  (hk:2<=vs.length->∀h':Sl,(∀b o,b≠a->s.heap.get? b=some o->h'.get? b=some o)->∀(Q:TZ->Sw->Prop),Q κ {s with heap:=h'}->Sy (model prog w) A (keyKind' vs.toArray) Q E {s with heap:=h'})
  (hr:2<=vs.length->∀h':Sl,(∀b o,b≠a->s.heap.get? b=some o->h'.get? b=some o)->nq (T1 prog w A κ vs) r vs.length {s with heap:=h'})
  (h:∀p:Array Nat,PM vs.length p->Up r p vs.length->P (.done (.ret .none)) {s with heap:=sortedHeap s.heap a vs (List.toArray (p.toList.map λi=>vs.getD i Value.none))}):
  Sy (model prog w) A (Builtin.«list.sort» ⟨[.ref a],[]⟩) P E s:=by
 rw[list_sort_plain];have ha:a<s.heap.objs.size:=RH ho;refine SK (listItems_at ho rfl ?_);refine SK (T2 ho rfl ?_ (by rw[OW,SZ];omega) (O3 _));obtain⟨e1,ho1⟩:∃e1,(s.heap.update a (Obj.mapSeq λ_=>(#[]:Array Se))).get? a=some (seqObj "list" #[] e1):=⟨_,T3 ho (λ_=>#[])⟩
 refine SK (T5 ho1 rfl ?_);refine SK (TU ?_ (by show vs.length<=_;rw[SZ];omega));refine SK (T6 ?_ (O3 _));refine Tl ?_;have ho6:(((s.heap.update a (Obj.mapSeq λ_=>(#[]:Array Se))).push (seqObj "tuple" vs.toArray 0)).push (seqObj "list" #[] 0)).get? a=some (seqObj "list" #[] e1):=by
  rw[RP _ _ _ (by rw[size_push',RQ];exact OD (PH ha)),RP _ _ _ (by rw[RQ];exact OD ha)];exact ho1
 have kept:∀b o,b≠a->s.heap.get? b=some o->(((s.heap.update a (Obj.mapSeq λ_=>(#[]:Array Se))).push (seqObj "tuple" vs.toArray 0)).push (seqObj "list" #[] 0)).get? b=some o:=λb o hb e=>
  RL _ (RL _ (by rw[RT _ _ _ _ hb];exact e))
 show Sy (model prog w) A _ P E {s with heap:=((s.heap.update a (Obj.mapSeq λ_=>(#[]:Array Se))).push (seqObj "tuple" vs.toArray 0)).push (seqObj "list" #[] 0)};dsimp only;have hsz:vs.toArray.size=vs.length:=by simp
 by_cases h2:vs.toArray.size<2
 ·rw[if_pos h2,if_pos h2];refine SK (SJ ?_);rw[StateT.run_pure];refine SK (SJ ?_);dsimp only;refine SK (T5 ho6 rfl ?_);have hout:(arrOf (SortSt.mk' general' (vs.toArray.zip vs.toArray) #[] 7 none)).map (·.2)=List.toArray ((List.toArray (List.range vs.length)).toList.map λi=>vs.getD i Value.none):=by
   refine kat_snds rfl ?_;show vs.toArray.zip vs.toArray=_;have e:=kas_range (vs.toArray.zip vs.toArray);rw[show(vs.toArray.zip vs.toArray).size=vs.length by simp]at e;exact e.symm
  rw[hout];refine SK (T2 ho6 rfl ?_ (O3 _) (by rw[OW,O0,SZ];simp;omega));simp only[bne_self_eq_false,PF,if_false];refine SJ (h _ (Array.Perm.refl _) λi j hij hj=>?_)
  have:i=j:=by omega
  subst this;exact OT _
 ·rw[if_neg h2,if_neg h2];have h2':2<=vs.length:=by omega
  refine SK (hk h2' _ kept _ ?_);refine SK (SE (kat_run (Q:=λst' s'=>∃p:Array Nat,arrOf st'=p.map (kas_item (vs.toArray.zip vs.toArray))/\failedOf st'=none/\PM vs.length p/\Up r p vs.length/\s'={s with heap:=((s.heap.update a (Obj.mapSeq λ_=>(#[]:Array Se))).push (seqObj "tuple" vs.toArray 0)).push (seqObj "list" #[] 0)})
   (G:=λp s'=>PM vs.length p/\Up r p vs.length/\s'={s with heap:=((s.heap.update a (Obj.mapSeq λ_=>(#[]:Array Se))).push (seqObj "tuple" vs.toArray 0)).push (seqObj "list" #[] 0)})
   rfl h2' h64 (λp' st' s' a1 a2 a3 a4=>⟨p',a2,a3,a4.1,a4.2.1,a4.2.2⟩) (Av (hr h2' _ kept) ‹0› λp hp hu=>⟨hp,hu,rfl⟩)) ?_ λ_ _ e=>e)
  rintro⟨⟨⟩,st'⟩ s' ⟨p,har,hf,hp,hu,rfl⟩;dsimp only;refine SK (T5 ho6 rfl ?_);have hout:=kat_snds rfl har;rw[hout];refine SK (T2 ho6 rfl ?_ (O3 _) (by rw[OW,O0,Array.length_toList,hp.size,SZ];omega));rw[hf];simp only[bne_self_eq_false,PF,if_false];exact SJ (h p hp hu)
def ux{src:Se}{vs:List Se}{Q:Se->Sw->Prop}{κ:TZ}{r:Nat->Nat}(h64:vs.length<64)
  (hcol:∀(Q':List Se->Sw->Prop),(∀h' tk,(∀b o,s.heap.get? b=some o->h'.get? b=some o)->Q' vs {s with heap:=h',toks:=tk})->Sy (model prog w) A.in1 (collect src) Q' E s)
  (hk:2<=vs.length->∀(h':Sl)(tk:Nat),(∀b o,s.heap.get? b=some o->h'.get? b=some o)->∀(Q:TZ->Sw->Prop),Q κ {s with heap:=h',toks:=tk}->Sy (model prog w) A.in1.in1 (keyKind' vs.toArray) Q E {s with heap:=h',toks:=tk})
  (hr:2<=vs.length->∀(h':Sl)(tk:Nat),(∀b o,s.heap.get? b=some o->h'.get? b=some o)->nq (T1 prog w A.in1.in1 κ vs) r vs.length {s with heap:=h',toks:=tk})
  (h:∀(p:Array Nat)(h1 h':Sl)(l:Si)(e tk:Nat),PM vs.length p->Up r p vs.length->(∀b o,s.heap.get? b=some o->h1.get? b=some o)->(∀b o,h1.get? b=some o->h'.get? b=some o)->h1.objs.size<=l->h'.get? l=some (seqObj "list" (List.toArray (p.toList.map λi=>vs.getD i Value.none)) e)->Q (.ref l) {s with heap:=h',toks:=tk}):
  Sy (model prog w) A (call (.builtin "sorted") [src]) Q E s:=by
 refine Calls.call_function_entry kind_sorted plain_sorted entry_sorted (args_sorted1 _) ?_;unfold Builtin.«sorted»;refine SK (m:=checkCount "sorted" 1 1 _) (SJ ?_);refine SK (hcol _ λh1 tk k1=>?_);refine SK (T6 ?_ (by rw[SZ];omega));have hoL:(h1.push (seqObj "list" vs.toArray 0)).get? h1.objs.size=some (seqObj "list" vs.toArray 0):=RM _ rfl;have k2:∀b o,s.heap.get? b=some o->(h1.push (seqObj "list" vs.toArray 0)).get? b=some o:=λb o e=>RL _ (k1 b o e);have ne:∀b o,s.heap.get? b=some o->b≠h1.objs.size:=λb o e=>OD (RH (k1 b o e));refine SK (Tl (To slot_list_sort ⟨_,hoL,rfl⟩ entry_list_sort (uP (s:={s with heap:=h1.push (seqObj "list" vs.toArray 0),toks:=tk}) (r:=r) (κ:=κ) hoL h64
  (λh2 h' k=>hk h2 h' tk λb o e=>k b o (ne b o e) (k2 b o e)) (λh2 h' k=>hr h2 h' tk λb o e=>k b o (ne b o e) (k2 b o e)) λp hp hu=>⟨_,rfl,?_⟩) (args_list_sort _)))
 refine SJ ⟨_,rfl,?_⟩;obtain⟨e,he⟩:=sortedHeap_at (vs:=vs) (out:=List.toArray (p.toList.map λi=>vs.getD i Value.none)) hoL;exact h p h1 _ h1.objs.size e tk hp hu k1 (λb o q=>by rw[sortedHeap_old (OD (RH q)) (by rw[size_push'];exact PH (RH q))];exact RL _ q) (OT _) he
end
def eN:D->List D
 |.tup ks=>ks
 |_=>[]
def oneOf(d:D):List D:=[d]
def HK(xs:List D):Prop:=xs.length<64/\∃σ:List Bool,σ≠[]/\(∀x∈xs,∃k,x=.tup k/\Sh σ k)/\xs.Pairwise λx y=>eN x≠eN y
def Ke(xs:List D):Prop:=xs.length<64/\∃b:Bool,(∀x∈xs,Sh [b] [x])/\xs.Pairwise λx y=>oneOf x≠oneOf y
open Classical in
noncomputable def rH(xs:List D):Option D:=if HK xs then some (.lst (jq eN xs))else if Ke xs then some (.lst (jq oneOf xs))else none
noncomputable def eU:List D->Option D
 |[.lst xs]=>rH xs
 |[.tup xs]=>rH xs
 |_=>none
def jX{prog:Sg}{w:Sf}{A:Sv}{s:Sw}{Q:Bool->Sw->Prop}{fin:Bool}(hf:fin=false):∀{σ:List Bool}{ns ms:List D}{xs ys:List Se}{i:Nat},Sh σ ns->Sh σ ms->iD xs ns->iD ys ms->Q (kLt ns ms) s->KatLex prog w A true fin Q (xs.zip ys) i s
 |_,_,_,_,_,i,.nil,.nil,.nil,.nil,h=>by
  subst hf;exact kat_nil (by simpa [kLt,gC]using h)
 |_,_,_,_,_,i,.int a h1,.int c h2,.int _ t f1,.int _ u f2,h=>by
  rw[Qq];obtain⟨e,he,hiff⟩:=Hr A s a t c u;refine kat_cons (he prog w _ _ ?_);cases e with
  |true=>
   have ac:=hiff.mp rfl;refine kat_yes (jX hf h1 h2 f1 f2 ?_);unfold kLt at h ⊢;rw[tR,if_pos ac]at h;exact h
  |false=>
   have ac:¬a=c:=λq=>absurd (hiff.mpr q) OX;have h':Q (decide (a<c)) s:=by
    unfold kLt at h;rw[tR,if_neg ac]at h;cases hd:decide (a<c)<;>rw[hd]at h<;>exact h
   refine kat_no ?_;cases hi:(i==0)with
   |true=>exact oneLt_int h'
   |false=>exact kat_one _ _ (PySem.P.lt_int (show Rz Q (.bool _) s from h'))
 |_,_,_,_,_,i,.str a h1,.str c h2,.str _ t f1,.str _ u f2,h=>by
  rw[Qq];obtain⟨e,he,hiff⟩:=G7 A s a t c u;refine kat_cons (he prog w _ _ ?_);cases e with
  |true=>
   have ac:=hiff.mp rfl;refine kat_yes (jX hf h1 h2 f1 f2 ?_);unfold kLt at h ⊢;rw[sS,if_pos ac]at h;exact h
  |false=>
   have ac:¬a=c:=λq=>absurd (hiff.mpr q) OX;have h':Q (decide (a.cps.toList<c.cps.toList)) s:=by
    unfold kLt at h;rw[sS,if_neg ac]at h;cases hd:decide (a.cps.toList<c.cps.toList)<;>rw[hd]at h<;>exact h
   refine kat_no ?_;cases hi:(i==0)with
   |true=>exact oneLt_str h'
   |false=>exact kat_one _ _ (PySem.P.lt_str (show Rz Q (.bool _) s from h'))
def o0{h:Sl}{PT:Se->Prop}:∀{its:List Se},(∀v∈its,∃a o xs n f,v=.ref a/\h.get? a=some o/\o.cls=.type "tuple"/\o.data=.seq xs n/\xs[0]?=some f/\PT f)->∃fs,KatTups h its fs/\fs.length=its.length/\∀f∈fs,PT f
 |[],_=>⟨[],.nil,rfl,λ_ h=>nomatch h⟩
 |v::its,hh=>by
  obtain⟨a,o,xs,n,f,rfl,h1,h2,h3,h4,h5⟩:=hh v OJ;obtain⟨fs,k1,k2,k3⟩:=o0 (its:=its) λu hu=>hh u (OL _ hu);refine⟨f::fs,.cons h1 h2 h3 h4 k1,by rw[OY,OY,k2],λg hg=>?_⟩;rcases List.mem_cons.mp hg with rfl|z
  ·exact h5
  ·exact k3 g z
def iD.first{σ:List Bool}{b:Bool}{xs:List Se}{ns:List D}(f:iD xs ns)(h:Sh (b::σ) ns):∃v,xs[0]?=some v/\typeOf v=pure (.type (if b then"int"else"str")):=by
 cases f with
 |nil=>cases h
 |int i t f=>cases h;exact⟨_,rfl,rfl⟩
 |str i t f=>cases h;exact⟨_,rfl,rfl⟩
def rk{key:D->List D}{σ:List Bool}{ds:List D}(h:∀x∈ds,Sh σ (key x))(pw:ds.Pairwise λx y=>key x≠key y){p:Array Nat}(hp:PM ds.length p)(hu:Up (rank (ds.map key)) p ds.length):p.toList.map (λi=>ds.getD i .non)=jq key ds:=by
 have hr:p.toList.Perm (List.range ds.length):=by
  have:=Array.perm_iff_toList_perm.mp hp
  simpa using this
 have hmap:(List.range ds.length).map (λi=>ds.getD i .non)=ds:=by
  apply List.ext_getElem
  ·simp
  ·intro i h1 h2;simp at h1;simp[h1]
 have hperm:(p.toList.map λi=>ds.getD i .non).Perm ds:=by
  have:=hr.map (λi=>ds.getD i .non)
  rwa [hmap]at this
 have hn:p.toList.Nodup:=hr.nodup_iff.mpr List.nodup_range;refine(yv h pw ?_ hperm).symm;have hl:p.toList.length=ds.length:=by rw[hr.length_eq,P8]
 have kd:∀i,i<ds.length->(ds.map key).getD i []=key (ds.getD i .non):=λi hi=>by simp[hi]
 have hsh:∀k∈ds.map key,Sh σ k:=λk hk=>by
  obtain⟨x,hx,rfl⟩:=List.mem_map.mp hk;exact h x hx
 unfold yB;rw[QC,List.pairwise_iff_getElem];intro i j hi hj hij;have hi':p.toList[i]<ds.length:=by simpa using hr.mem_iff.mp (QB hi)
 have hj':p.toList[j]<ds.length:=by simpa using hr.mem_iff.mp (QB hj)
 have ne:p.toList[i]≠p.toList[j]:=List.pairwise_iff_getElem.mp hn i j hi hj hij;have up:=hu i j ‹0› ‹0›;have gi:p.getD i 0=p.toList[i]:=by
  have:i<p.size:=by rw[<-Array.length_toList];exact hi
  simp[Array.getD,this]
 have gj:p.getD j 0=p.toList[j]:=by
  have:j<p.size:=by rw[<-Array.length_toList];exact hj
  simp[Array.getD,this]
 unfold Rk at up;rw[gi,gj]at up;have rl:=sj hsh (i:=p.toList[j]) (j:=p.toList[i]) (by rw[O0];exact hj') (by rw[O0];exact hi');rw[kd _ hj',kd _ hi',decide_eq_false ‹0›]at rl;have ei:ds.getD p.toList[i] .non=ds[p.toList[i]]:=by rw[QD,PX hi'];rfl
 have ej:ds.getD p.toList[j] .non=ds[p.toList[j]]:=by rw[QD,PX hj'];rfl
 have s1:=h _ (show ds.getD p.toList[i] .non∈ds by rw[ei];exact QB hi');have s2:=h _ (show ds.getD p.toList[j] .non∈ds by rw[ej];exact QB hj');rcases ot s1 s2 with⟨z,_⟩|z|⟨z,_⟩
 ·exact z
 ·exfalso;have pw':=List.pairwise_iff_getElem.mp pw;rw[ei,ej]at z;rcases Nat.lt_or_gt_of_ne ne with q|q
  ·exact pw' _ _ hi' hj' q z
  ·exact pw' _ _ hj' hi' q z.symm
 ·rw[GN.mpr z]at rl;cases rl
def qJ{vs:List V}{us:List Se}(r:Vals vs us):∀l:List Nat,(∀i∈l,i<vs.length)->Vals (l.map λi=>vs.getD i .non) (l.map λi=>us.getD i Value.none)
 |[],_=>.nil
 |i::l,h=>by
  have hi:=h i OJ;obtain⟨u,e,q⟩:=r.get (i:=i) (x:=vs[i]) (by simp[hi]);refine .cons ?_ (qJ r l λj hj=>h j (OL _ hj));have e1:vs.getD i .non=vs[i]:=by simp[hi]
  have e2:us.getD i Value.none=u:=by simp[QD,e]
  show L2.RelV (vs.getD i .non) (us.getD i Value.none);rw[e1,e2];exact q
def qd{K:Q7}{H:Hp}{ds:List D}{vs:List V}(g:bx K H ds vs):∀l:List Nat,(∀i∈l,i<ds.length)->bx K H (l.map λi=>ds.getD i .non) (l.map λi=>vs.getD i .non)
 |[],_=>dA.mpr rfl
 |i::l,h=>by
  have hi:=h i OJ;obtain⟨v,e,q⟩:=g.get (i:=i) (d:=ds[i]) (by simp[hi]);refine bP.mpr ⟨_,_,rfl,?_,qd g l λj hj=>h j (OL _ hj)⟩;have e1:ds.getD i .non=ds[i]:=by simp[hi]
  have e2:vs.getD i .non=v:=by simp[QD,e]
  show dD K H (ds.getD i .non) (vs.getD i .non);rw[e1,e2];exact q
section
variable{X:Cx}{pins:List (Si×Obj)}{s:Sw}{σ:L2.St}{H:Hp}{O:List Si}
def vz{u:Se}{ds:List D}{vs:List V}{its:List Se}{d:D}{Q:VK}(I:Inv X pins σ H s)(hO:fT H O)(dn:bx X.K (hid H O) ds vs)(rv:Vals vs its)(hs:rH ds=some d)
  (hcol:∀(Q':List Se->Sw->Prop),(∀h' tk,(∀b o,s.heap.get? b=some o->h'.get? b=some o)->Q' its {s with heap:=h',toks:=tk})->Sy (model X.prog X.w) X.A.in1 (collect u) Q' X.xe s)
  (q:∀v H',bT H H'->dD X.K (hid H' O) d v->Q v H'):Sy (model X.prog X.w) X.A (call (.builtin "sorted") [u]) (EP X pins σ Q) X.xe s:=by
 have l1:=dn.length;have l2:=rv.length;have fin:∀(key:D->List D)(σ':List Bool),(∀x∈ds,Sh σ' (key x))->ds.Pairwise (λx y=>key x≠key y)->ds.length<64->d=.lst (jq key ds)->∀(p:Array Nat)(h1 h':Sl)(l:Si)(e tk:Nat),PM its.length p->Up (rank (ds.map key)) p its.length->(∀b o,s.heap.get? b=some o->h1.get? b=some o)->(∀b o,h1.get? b=some o->h'.get? b=some o)->h1.objs.size<=l->
   h'.get? l=some (seqObj "list" (List.toArray (p.toList.map λi=>its.getD i Value.none)) e)->EP X pins σ Q (.ref l) {s with heap:=h',toks:=tk}:=by
  intro key σ' hsh pw h64 ed p h1 h' l e tk hp hu k1 k2 hl he;have el:its.length=ds.length:=by omega
  rw[el]at hp hu;have ps:=rk hsh pw hp hu;have hr:p.toList.Perm (List.range ds.length):=by
   have:=Array.perm_iff_toList_perm.mp hp
   simpa using this
  have hlt:∀i∈p.toList,i<ds.length:=λi hi=>by simpa using hr.mem_iff.mp hi
  have I1:Inv X pins σ H {s with heap:=h1,toks:=tk}:=I.kept k1;have hn:H l=none:=I1.hok.fresh hl;have rv':=qJ rv p.toList λi hi=>by have:=hlt i hi;omega
  have dn':=qd dn p.toList hlt;have hlen:p.toList.length=ds.length:=by rw[hr.length_eq,P8]
  refine⟨.ref l,_,Inv.laid (s:={s with heap:=h1,toks:=tk}) (t':=tk) I1 k2 hl (show dq X.prog X.w _ h' _ (.lst (p.toList.map λi=>vs.getD i .non))from⟨by rw[O0,hlen,SZ];omega,_,e,rv',he⟩),rfl,?_⟩;refine q _ _ (cI hn _) ?_;rw[ed,<-ps];exact dY hO hn dn'
 unfold rH at hs;split at hs
 ·rename_i h;cases hs;obtain⟨h64,σ',hσ,hsh,pw⟩:=h;obtain⟨b,σ1,rfl⟩:∃b σ1,σ'=b::σ1:=by
   cases σ' with
   |nil=>exact absurd rfl hσ
   |cons b σ1=>exact⟨b,σ1,rfl⟩
  have hsh':∀x∈ds,Sh (b::σ1) (eN x):=λx hx=>by
   obtain⟨k,rfl,hk⟩:=hsh x hx;exact hk
  have at':∀i (hi:i<ds.length),∃a o xs n,its[i]?=some (.ref a)/\s.heap.get? a=some o/\o.cls=.type "tuple"/\o.data=.seq xs n/\iD xs.toList (eN ds[i]):=λi hi=>by
   obtain⟨v,e1,dv⟩:=dn.get (i:=i) (d:=ds[i]) (by simp[hi]);obtain⟨w,e2,rw'⟩:=rv.get e1;obtain⟨k,ek,hk⟩:=hsh _ (QB hi);rw[ek]at dv ⊢;obtain⟨a,ws,rfl,ha,dk⟩:=cZ.mp dv;cases rw';obtain⟨it2,r2,⟨o,ho,hc,n,hd⟩,_⟩:=I.tuple (cE (aU H O) ha);exact⟨a,o,_,n,e2,ho,hc,hd,by simpa [eN]using ly (sy hk) dk r2⟩
  refine ux (κ:=tuples' true) (r:=rank (ds.map eN)) ‹0› hcol (λh2 h' tk kp Q' hQ=>?_) (λh2 h' tk kp i j C hi hj hC=>?_) (fin eN _ hsh' pw h64 rfl)
  ·obtain⟨fs,t1,t2,t3⟩:=o0 (h:=h') (PT:=λf=>typeOf f=pure (.type (if b then"int"else"str"))) (its:=its) λv hv=>by
    obtain⟨i,hi,rfl⟩:=P4 hv;obtain⟨a,o,xs,n,e1,ho,hc,hd,ff⟩:=at' i ‹0›;obtain⟨f,ef,tf⟩:=ff.first (hsh' _ (QB _));refine⟨a,o,xs,n,f,?_,kp _ _ ho,hc,hd,by simpa using ef,tf⟩
    have:=PX hi
    rw[e1]at this;exact(Option.some.inj this).symm
   refine kat_kind (T:=.type (if b then"int"else"str")) t1 ‹0› (λf hf=>Looks.of_pure (t3 f hf)) (by cases b<;>rfl) ?_
   have:(Value.type (if b then"int"else"str") !=Value.type "tuple")=true:=(by cases b<;>rfl);rw[this];exact hQ
  ·obtain⟨a,o,xs,n,e1,ho,hc,hd,ff⟩:=at' i ‹0›;obtain⟨a2,o2,xs2,n2,e2,ho2,hc2,hd2,ff2⟩:=at' j ‹0›;unfold T1;have g1:its.getD i Value.none=.ref a:=(by simp[QD,e1]);have g2:its.getD j Value.none=.ref a2:=(by simp[QD,e2]);rw[g1,g2];have hi':i<ds.length:=(by omega);have hj':j<ds.length:=(by omega);have sh1:=hsh' _ (QB hi');have sh2:=hsh' _ (QB hj');have rl:=sj (ks:=ds.map eN) (σ:=b::σ1) (λk hk=>by obtain⟨x,hx,rfl⟩:=List.mem_map.mp hk;exact hsh' x hx) (i:=i) (j:=j) (by rw[O0];exact hi') (by rw[O0];exact hj');have k1:(ds.map eN).getD i []=eN ds[i]:=(by simp[hi']);have k2:(ds.map eN).getD j []=eN ds[j]:=(by simp[hj']);rw[k1,k2]at rl;rw[rl]at hC;refine kat_lt (kp _ _ ho) hd (kp _ _ ho2) hd2 (jX ?_ sh1 sh2 ff ff2 hC);have z1:xs.size=(eN ds[i]).length:=(by have:=ff.length;simpa using this);have z2:xs2.size=(eN ds[j]).length:=(by have:=ff2.length;simpa using this);have z3:(eN ds[i]).length=(eN ds[j]).length:=(by rw[Sh.length sh1,Sh.length sh2]);exact decide_eq_false ‹0›
 ·split at hs
  ·rename_i _ h;cases hs;obtain⟨h64,b,hsh,pw⟩:=h;have at':∀i (hi:i<ds.length),(∃(n:Int)(t:Tok),b=true/\its[i]?=some (.int n t)/\ds[i]=.int n)\/∃(x:Str)(t:Tok),b=false/\its[i]?=some (.str x t)/\ds[i]=.str x:=λi hi=>by
    obtain⟨v,e1,dv⟩:=dn.get (i:=i) (d:=ds[i]) (by simp[hi]);obtain⟨w,e2,rw'⟩:=rv.get e1;have hk:=hsh _ (QB hi);generalize ds[i]=di at dv hk;cases hk with
    |int n _=>
     rw[gG]at dv;subst dv;obtain⟨t,rfl⟩:=rw';exact .inl ⟨n,t,rfl,e2,rfl⟩
    |str x _=>
     rw[gJ]at dv;subst dv;obtain⟨t,rfl⟩:=rw';exact .inr ⟨x,t,rfl,e2,rfl⟩
   refine ux (κ:=oneType') (r:=rank (ds.map oneOf)) ‹0› hcol (λh2 h' tk kp Q' hQ=>?_) (λh2 h' tk kp i j C hi hj hC=>?_) (fin oneOf [b] hsh pw h64 rfl)
   ·refine kas_kind (T:=.type (if b then"int"else"str")) h2 (λv hv=>?_) (by cases b<;>rfl) (by cases b<;>rfl) hQ;obtain⟨i,hi,rfl⟩:=P4 hv;have hg:=PX hi;rcases at' i ‹0›with⟨n,t,rfl,e,_⟩|⟨x,t,rfl,e,_⟩
    ·rw[hg]at e;rw[Option.some.inj e];exact Looks.of_pure rfl
    ·rw[hg]at e;rw[Option.some.inj e];exact Looks.of_pure rfl
   ·have hi':i<ds.length:=(by omega);have hj':j<ds.length:=(by omega);unfold T1;have rl:=sj (ks:=ds.map oneOf) (σ:=[b]) (λk hk=>by obtain⟨x,hx,rfl⟩:=List.mem_map.mp hk;exact hsh x hx) (i:=i) (j:=j) (by rw[O0];exact hi') (by rw[O0];exact hj');have k1:(ds.map oneOf).getD i []=[ds[i]]:=(by simp[hi',oneOf]);have k2:(ds.map oneOf).getD j []=[ds[j]]:=(by simp[hj',oneOf]);rw[k1,k2]at rl;rw[rl]at hC;rcases at' i hi' with⟨n,t,hb,e1,q1⟩|⟨x,t,hb,e1,q1⟩
    ·rcases at' j hj' with⟨n2,t2,hb2,e2,q2⟩|⟨x2,t2,hb2,e2,q2⟩
     ·have g1:its.getD i Value.none=.int n t:=(by simp[QD,e1]);have g2:its.getD j Value.none=.int n2 t2:=(by simp[QD,e2]);rw[g1,g2,keyLt'_oneType];refine oneLt_int ?_;rw[q1,q2]at hC;unfold kLt at hC;rw[tR]at hC;by_cases z:n=n2
      ·rw[if_pos z]at hC;rw[decide_eq_false ‹0›];exact hC
      ·rw[if_neg z]at hC;cases hd:decide (n<n2)<;>rw[hd]at hC<;>exact hC
     ·rw[hb]at hb2;cases hb2
    ·rcases at' j hj' with⟨n2,t2,hb2,e2,q2⟩|⟨x2,t2,hb2,e2,q2⟩
     ·rw[hb]at hb2;cases hb2
     ·have g1:its.getD i Value.none=.str x t:=(by simp[QD,e1]);have g2:its.getD j Value.none=.str x2 t2:=(by simp[QD,e2]);rw[g1,g2,keyLt'_oneType];refine oneLt_str ?_;rw[q1,q2]at hC;unfold kLt at hC;rw[sS]at hC;by_cases z:x=x2
      ·rw[if_pos z]at hC;rw[decide_eq_false (by rw[z];exact sK _)];exact hC
      ·rw[if_neg z]at hC;cases hd:decide (x.cps.toList<x2.cps.toList)<;>rw[hd]at hC<;>exact hC
  ·cases hs
def jB:eR X (.builtin "sorted") (yP X.K eU):=by
 intro pins s σ H xs us Q I r ⟨O,ds,d,hO,hd,hg,q⟩;unfold eU at hg;split at hg
 ·obtain⟨v,rfl,h1⟩:=hd.one;obtain⟨p,ws,rfl,g1,g2⟩:=cX.mp h1;obtain⟨u,rfl,ru⟩:=vals1 r;cases ru;obtain⟨its,rv,pl,hz⟩:=I.list ((aU H O).seq g1);have hlen:=rv.length;obtain⟨o,ho,hc,n,hd'⟩:=pl.isList;exact vz I hO g2 rv hg (λQ' hQ=>T7 p (.inl rfl) ho hc hd' (λh' k=>by simpa using hQ h' s.toks k) (by simp only[OW]<;>omega)) q
 ·obtain⟨v,rfl,h1⟩:=hd.one;obtain⟨p,ws,rfl,g1,g2⟩:=cZ.mp h1;obtain⟨u,rfl,ru⟩:=vals1 r;cases ru;obtain⟨its,rv,⟨o,ho,hc,n,hd'⟩,hz⟩:=I.tuple (cE (aU H O) g1);have hlen:=rv.length;exact vz I hO g2 rv hg (λQ' hQ=>T7 p (.inr rfl) ho hc hd' (λh' k=>by simpa using hQ h' s.toks k) (by simp only[OW]<;>omega)) q
 ·cases hg
end
end TG
namespace TG
open PySem PySem.Spec L2
variable[bh]
section
variable{X:Cx}{tg:Sz}
end
end TG
namespace TG
open PySem PySem.Spec L2
variable[bh]
end TG
namespace TG
open PySem PySem.Spec L2
variable[bh]
end TG
namespace TG
open PySem PySem.Spec L2
variable[bh]
def keyOf:D->Option Key
 |.int i=>some (.inl i)
 |.str x=>some (.inr x)
 |_=>none
def keysOf:List D->Option (List Key)
 |[]=>some []
 |d::r=>(keyOf d).bind λk=>(keysOf r).map (k::·)
def kF:D->Option (List Key)
 |.tup ds=>keysOf ds
 |_=>none
def tq{d:D}{k:Key}(h:keyOf d=some k):d=bQ k:=by
 cases d with
 |int i=>cases h;rfl
 |str x=>cases h;rfl
 |_=>cases h
def nT:∀{ds:List D}{ks:List Key},keysOf ds=some ks->ds=ks.map bQ
 |[],_,h=>by cases h;rfl
 |d::r,ks,h=>by
  unfold keysOf at h;cases e1:keyOf d with
  |none=>rw[e1]at h;cases h
  |some k=>
   rw[e1]at h;cases e2:keysOf r with
   |none=>rw[e2]at h;cases h
   |some ks'=>rw[e2]at h;cases h;rw[tq e1,nT e2];rfl
def ph{d:D}{k:List Key}(h:kF d=some k):d=.tup (k.map bQ):=by
 cases d with
 |tup ds=>rw[nT (show keysOf ds=some k from h)]
 |_=>cases h
def cQ:∀ks:List Key,keysOf (ks.map bQ)=some ks
 |[]=>rfl
 |k::r=>by
  show(keyOf (bQ k)).bind _=_;have e:keyOf (bQ k)=some k:=by cases k<;>rfl
  rw[e];show(keysOf (r.map bQ)).map (k::·)=_;rw[cQ r];rfl
def uq{K:Q7}{H:Hp}{k:Key}{v:V}(h:dD K H (bQ k) v):v=kV k:=by
 cases k with
 |inl i=>exact gG.mp h
 |inr x=>exact gJ.mp h
def li{K:Q7}{H:Hp}:∀{ks:List Key}{vs:List V},bx K H (ks.map bQ) vs->vs=ks.map kV
 |[],vs,h=>by rw[Pt,dA]at h;exact h
 |k::r,vs,h=>by
  rw[OZ,bP]at h;obtain⟨v,r',e1,h1,h2⟩:=h;rw[e1,uq h1,li h2];rfl
section
variable{P:Sg}{w:Sf}{H H':Hp}{h:Sl}{a:Si}
def Em(x:dq P w H h a (.dK [])):dq P w H' h a (.dT []):=by
 obtain⟨z,hd,vs,rel,o,es,ep,h1,h2,h3,h4,h5,h6⟩:=x;have e:vs=[]:=by have:=rel.length;simpa using this.symm
 subst e;refine⟨O3 _,hd,[],.nil,o,es,ep,h1,h2,h3,?_,by simp⟩
 have:=h5.length
 simpa using this
def yL(x:dq P w H h a (.dT [])):dq P w H' h a (.dK []):=by
 obtain⟨z,hd,xs,rel,o,es,ep,h1,h2,h3,h4,h5⟩:=x;have e:xs=[]:=by have:=rel.length;simpa using this.symm
 subst e;have e2:es=#[]:=by simpa using h4
 subst e2;exact⟨O3 _,hd,[],.nil,o,#[],ep,h1,h2,h3,λe he=>by simp at he,.nil,by simp⟩
end
section
variable{X:Cx}{pins:List (Si×Obj)}{σ:St}{H:Hp}{s:Sw}{a:Si}
def Iu(I:Inv X pins σ H s)(h1:H a=some (.dK [])):Inv X pins σ (upd H a (.dT [])) s:=by
 have hx:=I.hok a _ h1;have hq:∃q,s.heap.get? a=some q:=by obtain⟨_,_,_,_,o,_,_,e,_⟩:=id hx;exact⟨o,e⟩
 exact sF (ob:=.dT []) (h':=s.heap) (t':=s.toks) I (by rw[h1];exact trivial) ⟨rfl,λ_ _=>rfl⟩ hq (Em hx)
def K4(I:Inv X pins σ H s)(h1:H a=some (.dT [])):Inv X pins σ (upd H a (.dK [])) s:=by
 have hx:=I.hok a _ h1;have hq:∃q,s.heap.get? a=some q:=by obtain⟨_,_,_,_,o,_,_,e,_⟩:=id hx;exact⟨o,e⟩
 exact sF (ob:=.dK []) (h':=s.heap) (t':=s.toks) I (by rw[h1];exact trivial) ⟨rfl,λ_ _=>rfl⟩ hq (yL hx)
end
def Et{H:Hp}{a:Si}{o1 o2:HO}(h:H a=some o1):upd (upd H a o2) a o1=H:=by
 funext b;by_cases e:b=a
 ·subst e;rw[bI,h]
 ·rw[bp e,bp e]
def qi:List D->List D->Option (List (List Key×D))
 |[],[]=>some []
 |k::ks,d::ds=>(kF k).bind λk=>(qi ks ds).map ((k,d)::·)
 |_,_=>none
abbrev encK(al:List (List Key×D)):List D:=al.map λp=>.tup (p.1.map bQ)
abbrev fX(al:List (List Key×D)):D:=.dct (encK al) (al.map (·.2))
def p5:∀{ks ds:List D}{al:List (List Key×D)},qi ks ds=some al->ks=encK al/\ds=al.map (·.2)
 |[],[],_,h=>by cases h;exact⟨rfl,rfl⟩
 |k::ks,d::ds,al,h=>by
  unfold qi at h;cases e1:kF k with
  |none=>rw[e1]at h;cases h
  |some k'=>
   rw[e1]at h;cases e2:qi ks ds with
   |none=>rw[e2]at h;cases h
   |some al'=>
    rw[e2]at h;cases h;obtain⟨h1,h2⟩:=p5 e2;rw[ph e1,h1,h2];exact⟨rfl,rfl⟩
 |[],_::_,_,h=>by cases h
 |_::_,[],_,h=>by cases h
def pq:∀al:List (List Key×D),qi (encK al) (al.map (·.2))=some al
 |[]=>rfl
 |p::r=>by
  show(kF (.tup (p.1.map bQ))).bind _=_;have e:kF (.tup (p.1.map bQ))=some p.1:=cQ p.1;rw[e];show(qi (encK r) (r.map (·.2))).map ((p.1,p.2)::·)=_;rw[pq r];rfl
def pG:∀{al:List (List Key×D)}{ks:List (List Key)},encK al=ks.map (λk=>.tup (k.map bQ))->al.map (·.1)=ks
 |[],[],_=>rfl
 |p::r,k::ks,h=>by
  have h:D.tup (p.1.map bQ)::encK r=D.tup (k.map bQ)::ks.map (λk=>.tup (k.map bQ)):=h;injection h with h1 h2;injection h1 with h1;have e:some p.1=some k:=by rw[<-cQ p.1,h1,cQ k]
  rw[OZ,Option.some.inj e,pG h2]
 |[],_::_,h=>by cases h
 |_::_,[],h=>by cases h
def NF{K:Q7}{H:Hp}{O:List Si}{a:Si}{al:List (List Key×D)}(h:jg K H O a (fX al)):
  (∃kvs:List (List Key×V),H a=some (.dT kvs)/\kvs.map (·.1)=al.map (·.1)/\bx K (hid H O) (al.map (·.2)) (kvs.map (·.2)))\/(H a=some (.dK [])/\al=[]):=by
 obtain⟨o,vs,h1,h2,h3⟩:=h;rcases h3 with⟨kvs,e,e1,e2⟩|⟨kvs,e,e1,e2⟩
 ·subst e;cases kvs with
  |nil=>
   refine .inr ⟨h1,?_⟩
   simpa using e1
  |cons p r=>
   cases al with
   |nil=>cases e1
   |cons q r'=>
    have e1:D.tup (q.1.map bQ)::encK r'=bQ p.1::r.map (λp=>bQ p.1):=e1;injection e1 with e1 _;rcases p with⟨k,v⟩
    cases k<;>cases e1
 ·subst e;refine .inl ⟨kvs,h1,?_,by rw[<-e2];exact h2⟩;exact(pG (ks:=kvs.map (·.1)) (by rw[QE];exact e1)).symm
def Dt{kvs:List (List Key×V)}{ks:List (List Key)}(e:kvs.map (·.1)=ks)(k:List Key):(oG kvs k).isSome=ks.any λq=>decide (q=k):=by
 subst e
 induction kvs with
 |nil=>rfl
 |cons p r ih=>
  rw[OZ,Pw,<-ih];by_cases e:p.1=k
  ·rw[mN e];simp[e]
  ·rw[mP e];simp[e]
def rj(ks ds:List D)(k:D):Option D:=(qi ks ds).bind λal=>(kF k).bind λk=>some (.bl (al.any λp=>decide (p.1=k)))
def Oa(i:Nat)(f:FX):FX:=λρ=>(f ρ).bind λk=>match ρ[i]? with
 |some (some (.own (.dct ks ds)))=>rO (rj ks ds k)
 |_=>un
def zr{ks ds:List D}{k d:D}(h:rj ks ds k=some d):∃al q,ks=encK al/\ds=al.map (·.2)/\k=.tup (q.map bQ)/\d=.bl (al.any λp=>decide (p.1=q)):=by
 unfold rj at h;cases e1:qi ks ds with
 |none=>rw[e1]at h;cases h
 |some al=>
  rw[e1]at h;cases e2:kF k with
  |none=>rw[e2]at h;cases h
  |some q=>
   rw[e2]at h;cases h;obtain⟨h1,h2⟩:=p5 e1;exact⟨al,q,h1,h2,ph e2,rfl⟩
def iW(al:List (List Key×D))(k:List Key)(v:D):List (List Key×D):=if(al.any λp=>decide (p.1=k))=true then al.map (λp=>if p.1=k then(p.1,v)else p)else al++[(k,v)]
def vf(ks ds:List D)(k v:D):Option (List (List Key×D)):=(qi ks ds).bind λal=>(kF k).bind λk=>if small al.length then some (iW al k v)else none
def uy(i:Nat)(fk fv:FX):cK:=λk ρ=>match ρ[i]? with
 |some (some (.own (.dct ks ds)))=>su ((fv ρ).bind λv=>(fk ρ).bind λq=>rO (vf ks ds q v)) k ρ λal=>k.nx (ρ.set i (some (.own (fX al))))
 |_=>un
def zM{ks ds:List D}{k v:D}{al':List (List Key×D)}(h:vf ks ds k v=some al'):∃al q,ks=encK al/\ds=al.map (·.2)/\k=.tup (q.map bQ)/\small al.length=true/\al'=iW al q v:=by
 unfold vf at h;cases e1:qi ks ds with
 |none=>rw[e1]at h;cases h
 |some al=>
  rw[e1]at h;cases e2:kF k with
  |none=>rw[e2]at h;cases h
  |some q=>
   rw[e2]at h;obtain⟨h3,h4⟩:=cq (show(if small al.length then some (iW al q v)else none)=some al' from h);obtain⟨h1,h2⟩:=p5 e1;exact⟨al,q,h1,h2,ph e2,h3,h4.symm⟩
def yM{kvs:List (List Key×V)}{al:List (List Key×D)}(e:kvs.map (·.1)=al.map (·.1))(k:List Key)(w:V)(d:D):(putK kvs k w).map (·.1)=(iW al k d).map (·.1):=by
 have e2:(kvs.any λp=>decide (p.1=k))=(al.any λp=>decide (p.1=k)):=by
  have:=congrArg (λl=>l.any λq=>decide (q=k)) e
  simpa [QF,Function.comp_def]using this
 unfold putK iW;rw[e2];split
 ·have e3:∀(l:List (List Key×V)),(l.map λkv=>if kv.1=k then(kv.1,w)else kv).map (·.1)=l.map (·.1):=λl=>by
   rw[QE];refine P6 λp _=>?_;show(if p.1=k then(p.1,w)else p).1=p.1;split<;>rfl
  have e4:∀(l:List (List Key×D)),(l.map λkv=>if kv.1=k then(kv.1,d)else kv).map (·.1)=l.map (·.1):=λl=>by
   rw[QE];refine P6 λp _=>?_;show(if p.1=k then(p.1,d)else p).1=p.1;split<;>rfl
  rw[e3,e4,e]
 ·rw[P7,P7,e];rfl
def yx{K:Q7}{H:Hp}{k:List Key}{w:V}{d:D}(hw:dD K H d w):∀{kvs:List (List Key×V)}{al:List (List Key×D)},kvs.map (·.1)=al.map (·.1)->bx K H (al.map (·.2)) (kvs.map (·.2))->
  bx K H ((al.map λp=>if p.1=k then(p.1,d)else p).map (·.2)) ((kvs.map λp=>if p.1=k then(p.1,w)else p).map (·.2))
 |[],[],_,h=>h
 |p::r,q::r',e,h=>by
  rw[OZ,OZ]at e;injection e with e1 e2;rw[OZ,OZ,bP]at h;obtain⟨v,ws,h0,h1,h2⟩:=h;injection h0 with h0 h0';subst h0 h0';have ih:=yx (k:=k) hw e2 h2;rw[OZ,OZ,OZ,OZ,bP];refine⟨_,_,rfl,?_,ih⟩;rw[e1];split
  ·exact hw
  ·exact h1
 |[],_::_,e,_=>by cases e
 |_::_,[],e,_=>by cases e
def A3{K:Q7}{H:Hp}{k:List Key}{w:V}{d:D}(hw:dD K H d w){kvs:List (List Key×V)}{al:List (List Key×D)}(e:kvs.map (·.1)=al.map (·.1))(h:bx K H (al.map (·.2)) (kvs.map (·.2))):
  bx K H ((iW al k d).map (·.2)) ((putK kvs k w).map (·.2)):=by
 have e2:(kvs.any λp=>decide (p.1=k))=(al.any λp=>decide (p.1=k)):=by
  have:=congrArg (λl=>l.any λq=>decide (q=k)) e
  simpa [QF,Function.comp_def]using this
 unfold putK iW;rw[e2];split
 ·exact yx hw e h
 ·rw[P7,P7];exact h.append (bP.mpr ⟨w,[],rfl,hw,dA.mpr rfl⟩)
def EL{kvs:List (List Key×V)}{al:List (List Key×D)}(e:kvs.map (·.1)=al.map (·.1)):encK al=kvs.map λp=>D.tup (p.1.map bQ):=by
 have:=congrArg (List.map λk:List Key=>D.tup (k.map bQ)) e
 rw[QE,QE]at this;exact this.symm
def yt{H:Hp}{a:Si}{o1 o2:HO}:upd (upd H a o1) a o2=upd H a o2:=by
 funext b;by_cases e:b=a
 ·subst e;rw[bI,bI]
 ·rw[bp e,bp e,bp e]
def Jo(td ty tv:TE):TS:=λD σ H=>tv σ H λv H1=>td σ H1 λx H2=>ty σ H2 λy H3=>∃a k b kvs,x=.ref a/\y=.ref b/\H3 b=some (.tup (k.map kV))/\(H3 a=some (.dT kvs)\/(H3 a=some (.dK [])/\kvs=[]))/\kvs.length<Sn/\D.nx σ (upd H3 a (.dT (putK kvs k v)))
section
variable{X:Cx}{o idx value:Sz}{pos pos':Pos}{td ty tv:TE}
def Dp(hu:X.A.units+1<S6)(ho:PE X o td)(hi:PE X idx ty)(hv:PE X value tv)(hs:swapsWith value (some (.Subscript o idx pos')) pos.line X.env=pure false):PS X (.Assign [.Subscript o idx pos'] value pos) (Jo td ty tv):=by
 intro pins s σ H D I h;refine wpAny_Assign_Subscript (eZ (hv pins s σ H _ I h) λr s1 ⟨v,H1,I1,rv,q1⟩=>eZ (ho pins s1 σ H1 _ I1 q1) λu s2 ⟨x,H2,I2,rx,q2⟩=>eZ (hi pins s2 σ H2 _ I2 q2) λiv s3 ⟨y,H3,I3,ry,a,k,b,kvs,ex,ey,hb,ha,hl,q3⟩=>?_) hs;subst ex ey;obtain rfl:u=Value.ref a:=rx;rcases ha with ha|⟨ha,rfl⟩
 ·exact oq hu I3 (HZ.t ha hb hl) ry rv λs4 I4=>⟨σ,_,I4,q3⟩
 ·have ne:b≠a:=λz=>by rw[z,ha]at hb;cases hb
  refine oq hu (Iu I3 ha) (HZ.t bI (by rw[bp ne];exact hb) hl) ry rv λs4 I4=>⟨σ,_,I4,?_⟩
  rw[yt];exact q3
end
def L9{X:Cx}{i:Nat}{x:Str}{idx value:Sz}{fk fv:FX}{npos tpos pos:Pos}(hu:X.A.units+64<S6)(hx:PE X (.Name x npos) (uW i))(hi:FE X idx fk)(hv:FE X value fv)
  (hs:swapsWith value (some (.Subscript (.Name x npos) idx tpos)) pos.line X.env=pure false:=by rfl):
  FS X (.Assign [.Subscript (.Name x npos) idx tpos] value pos) (uy i fk fv):=λHb Ob pins s σ H E I ⟨O,ρ,k,rr,S,hF,hk⟩=>by
 unfold uy at hF;split at hF
 ·rename_i ks ds hxs;obtain⟨a,ha,haO,hat⟩:=S.env.own i _ hxs;have hP:=jJ.on hF hk S (Q:=λal=>k.nx (ρ.set i (some (.own (fX al))))=rr) λp e=>e;refine Dp ‹0› hx hi hv hs pins s σ H E I ⟨O,ρ,S.env,(jJ.bind hP).imp λy hP v H1 s1 d1=>?_⟩;have S1:=S.same s1;refine⟨.ref a,ha,O,ρ,S1.env,((jJ.bind hP).mono s1).imp λj hP w H2 s2 d2=>?_⟩;have S2:=S1.same s2;obtain⟨al',hg,e⟩:=jJ.rO hP;obtain⟨al,q,f1,f2,f3,f4,f5⟩:=zM hg;subst f1 f2 f3 f5;have s12:=s1.trans s2;obtain⟨b,ws,eb,g1,g2⟩:=cZ.mp d2;rw[li g2]at g1;have hat2:jg X.K H2 O a (fX al):=hat.mono (let ⟨_,z⟩:=hat.some;sq s12 z) (cH s12);have dv:dD X.K (hid H2 O) y v:=d1.mono (cH s2);have fin:∀kvs:List (List Key×V),kvs.map (·.1)=al.map (·.1)->bx X.K (hid H2 O) (al.map (·.2)) (kvs.map (·.2))->jg X.K (upd H2 a (.dT (putK kvs q v))) O a (fX (iW al q y)):=λkvs k2 k3=>
   ⟨_,_,bI,(A3 dv k2 k3).mono (nN haO),.inr ⟨putK kvs q v,rfl,EL (yM k2 q v y),rfl⟩⟩
  rcases NF hat2 with⟨kvs,k1,k2,k3⟩|⟨k1,rfl⟩
  ·have hl:kvs.length=al.length:=(by have:=congrArg List.length k2;simpa using this);exact⟨a,q,b,kvs,rfl,eb,(aU H2 O) _ _ g1,.inl k1,by rw[hl];exact Qc (of_decide_eq_true f4) (by decide),hk.nx O _ σ _ (S2.setO hxs ha trivial (fin kvs k2 k3)) e⟩
  ·exact⟨a,q,b,[],rfl,eb,(aU H2 O) _ _ g1,.inr ⟨k1,rfl⟩,by decide,hk.nx O _ σ _ (S2.setO hxs ha trivial (fin [] rfl (dA.mpr rfl))) e⟩
 ·exact absurd hF.symm hk.ne
end TG
namespace TG
open PySem PySem.Spec L2
variable[bh]
end TG
namespace TG
open PySem PySem.Spec PySem.W PySem.Calls PyProof.Rows Builtin Builtin.ObjectAttr Builtin.Getset_descriptor
variable[bh]
end TG
namespace TG
open PySem PySem.Spec L2
variable[bh]
open PyProof.Rows (AllBare OwnCls)
end TG
namespace TG
open PySem PySem.Spec L2
variable[bh]
end TG
namespace TG
open PySem PySem.Spec L2
variable[bh]
end TG
namespace TG
open PySem PySem.Spec L2
variable[bh]
end TG
namespace TG
open PySem PySem.Spec L2
def pR(P:Si)(pos:Pos)(q:Str):(Si->Prop)->Sl->Prop:=λS h=>h.get? P=some (RA #[])\/∃c,S c/\h.get? P=some (RA #[rawInt pos.line,rawInt pos.col,.ref c])/\h.CodeRec (.ref c) q
def pR.stay{P:Si}{pos:Pos}{q:Str}{S1 S2:Si->Prop}{h1 h2:Sl}(x:pR P pos q S1 h1)(s:∀b,S1 b->S2 b)(k:∀b o,(b=P\/S1 b)->h1.get? b=some o->h2.get? b=some o):pR P pos q S2 h2:=by
 rcases x with e|⟨c,hc,e,c',o,vs,t,ec,e1,r⟩
 ·exact .inl (k _ _ (.inl rfl) e)
 ·cases ec;exact .inr ⟨c,s c hc,k _ _ (.inl rfl) e,c,o,vs,t,rfl,k _ _ (.inr hc) e1,r⟩
def pR.ok{Pg:Sg}{w:Sf}{H:Hp}{h:Sl}{P:Si}{pos:Pos}{q:Str}(x:pR P pos q (λb=>H b=some (.own P)) h):dq Pg w H h P (.ext (pR P pos q)):=
 ⟨x,by rcases x with e|⟨_,_,e,_⟩<;>exact⟨_,e⟩,λ_ _ _ _ x s k=>x.stay s k⟩
abbrev xn(P:Si)(pos:Pos)(q:Str):bh:=⟨λH=>H P=some (.ext (pR P pos q)),λh e=>e _ _ h,λ{H p o o'} h hp m=>by
 rw[bp]
 ·exact h
 ·rintro rfl;rw[h]at hp;cases hp;exact m⟩
open PySem PySem.Spec PyProof.Rows PySem.W L2
variable[bh]
def uY(key:List D)(h:Sl)(k:Se):Prop:=∃b o xs n,k=.ref b/\h.get? b=some o/\o.cls=.type "tuple"/\o.data=.seq xs n/\iD xs.toList key
def uY.keep{key:List D}{h h':Sl}{k:Se}(x:uY key h k)(kp:∀b o,h.get? b=some o->h'.get? b=some o):uY key h' k:=by
 obtain⟨b,o,xs,n,e,ho,r⟩:=x;exact⟨b,o,xs,n,e,kp _ _ ho,r⟩
def uY.stay{key:List D}{h h':Sl}{k:Se}{c:Si}{xs:Array Se}{n:Nat}(x:uY key h k)(hc:h.get? c=some (seqObj "list" xs n))(kp:∀b o,b≠c->h.get? b=some o->h'.get? b=some o):uY key h' k:=by
 obtain⟨b,o,ys,m,e,ho,hk,r⟩:=x;refine⟨b,o,ys,m,e,kp _ _ (λz=>?_) ho,hk,r⟩;subst z;rw[hc]at ho;cases ho;revert hk;show¬(Value.type "list"=Value.type "tuple");simp
section
variable{prog:Sg}{w:Sf}{A:Sv}{E:Se->Sw->Prop}{s:Sw}
def CU{ks:List Se}{keys:List (List D)}{σ:List Bool}{b:Bool}{Q:TZ->Sw->Prop}(hl:ks.length=keys.length)(hsh:∀k∈keys,Sh (b::σ) k)(h1:1<=ks.length)
  (hk:∀i,i<ks.length->uY (keys.getD i []) s.heap (ks.getD i Value.none)) (h:Q (tuples' true) s):Sy (model prog w) A (keyKind' ks.toArray) Q E s:=by
 obtain⟨fs,t1,t2,t3⟩:=o0 (h:=s.heap) (PT:=λf=>typeOf f=pure (.type (if b then"int"else"str"))) (its:=ks) λv hv=>by
  obtain⟨i,hi,rfl⟩:=P4 hv;obtain⟨a,o,xs,n,e1,ho,hc,hd,ff⟩:=hk i hi;have hi':i<keys.length:=by omega
  have gk:keys.getD i []=keys[i]:=by simp[hi']
  rw[gk]at ff;obtain⟨f,ef,tf⟩:=ff.first (hsh _ (QB hi'));have gv:ks.getD i Value.none=ks[i]:=by simp[hi]
  rw[gv]at e1;exact⟨a,o,xs,n,f,e1,ho,hc,hd,by simpa using ef,tf⟩
 refine kat_kind (T:=.type (if b then"int"else"str")) t1 ‹0› (λf hf=>Looks.of_pure (t3 f hf)) (by cases b<;>rfl) ?_
 have:(Value.type (if b then"int"else"str") !=Value.type "tuple")=true:=by cases b<;>rfl
 rw[this];exact h
def zx{ks:List Se}{keys:List (List D)}{σ:List Bool}{b:Bool}(hl:ks.length=keys.length)(hsh:∀k∈keys,Sh (b::σ) k)
  (hk:∀i,i<ks.length->uY (keys.getD i []) s.heap (ks.getD i Value.none)):nq (T1 prog w A (tuples' true) ks) (rank keys) ks.length s:=by
 intro i j C hi hj hC;obtain⟨a,o,xs,n,e1,ho,hc,hd,ff⟩:=hk i hi;obtain⟨a2,o2,xs2,n2,e2,ho2,hc2,hd2,ff2⟩:=hk j hj;unfold T1;rw[e1,e2];have hi':i<keys.length:=by omega
 have hj':j<keys.length:=by omega
 have gi:keys.getD i []=keys[i]:=by simp[hi']
 have gj:keys.getD j []=keys[j]:=by simp[hj']
 have sh1:=hsh _ (QB hi');have sh2:=hsh _ (QB hj');have rl:=sj (ks:=keys) hsh hi' hj';rw[rl]at hC;rw[gi]at ff;rw[gj]at ff2;rw[gi,gj]at hC;refine kat_lt ho hd ho2 hd2 (jX ?_ sh1 sh2 ff ff2 hC);have z1:xs.size=keys[i].length:=by have:=ff.length;simpa using this
 have z2:xs2.size=keys[j].length:=by have:=ff2.length;simpa using this
 have z3:keys[i].length=keys[j].length:=by rw[Sh.length sh1,Sh.length sh2]
 exact decide_eq_false ‹0›
def Es{f:Se}{a:Si}{vs:List Se}{n:Nat}{keys:List (List D)}{σ:List Bool}{b:Bool}{P:PySem.Fin->Sw->Prop}
  (ho:s.heap.get? a=some (seqObj "list" vs.toArray n)) (h64:vs.length<64) (hl:keys.length=vs.length) (hsh:∀k∈keys,Sh (b::σ) k)
  (hc:∀ (i:Nat) (v:Se) (h':Sl) (tk:Nat) (Q':Se->Sw->Prop),vs[i]?=some v->(∀ c o,c≠a->s.heap.get? c=some o->h'.get? c=some o) ->
   (∀k h'' tk',(∀c o,h'.get? c=some o->h''.get? c=some o)->uY (keys.getD i []) h'' k->Q' k {s with heap:=h'',toks:=tk'})->Sy (model prog w) A (call f [v]) Q' (λ_ _=>False) {s with heap:=h',toks:=tk})
  (h:∀ (p:Array Nat) (h':Sl) (e tk:Nat),PM vs.length p->Up (rank keys) p vs.length->(∀ c o,c≠a->s.heap.get? c=some o->h'.get? c=some o)->h'.get? a=some (seqObj "list" (List.toArray (p.toList.map fun i=>vs.getD i Value.none)) e) ->
   P (.done (.ret .none)) {s with heap:=h',toks:=tk}):Sy (model prog w) A (ksk_tree a f false) P E s:=by
 have ha:a<s.heap.objs.size:=RH ho;obtain⟨e1,ho1⟩:∃e1,(s.heap.update a (Obj.mapSeq λ_=>(#[]:Array Se))).get? a=some (seqObj "list" #[] e1):=⟨_,T3 ho (λ_=>#[])⟩
 unfold ksk_tree;refine SK (listItems_at ho rfl ?_);refine SK (T2 ho rfl ?_ (by rw[OW,SZ];omega) (O3 _));refine SK (T5 ho1 rfl ?_);refine SK (TU ?_ (by show vs.length<=_;rw[SZ];omega));refine SK (T6 ?_ (O3 _));refine Tl ?_;have hkS:((s.heap.update a (Obj.mapSeq λ_=>(#[]:Array Se))).push (seqObj "tuple" vs.toArray 0)).objs.size=s.heap.objs.size+1:=by rw[size_push',RQ]
 show Sy (model prog w) A (ksk_rest a f false vs.toArray e1 (.ref ((s.heap.update a (Obj.mapSeq λ_=>(#[]:Array Se))).push (seqObj "tuple" vs.toArray 0)).objs.size)) P E {s with heap:=((s.heap.update a (Obj.mapSeq λ_=>(#[]:Array Se))).push (seqObj "tuple" vs.toArray 0)).push (seqObj "list" #[] 0)};rw[hkS];have hS0:(((s.heap.update a (Obj.mapSeq λ_=>(#[]:Array Se))).push (seqObj "tuple" vs.toArray 0)).push (seqObj "list" #[] 0)).get? (s.heap.objs.size+1)=some (seqObj "list" #[] 0):=by rw[<-hkS];exact RM _ rfl
 have hA0:(((s.heap.update a (Obj.mapSeq λ_=>(#[]:Array Se))).push (seqObj "tuple" vs.toArray 0)).push (seqObj "list" #[] 0)).get? a=some (seqObj "list" #[] e1):=RL _ (RL _ ho1);have hK0:∀b o,b≠a->s.heap.get? b=some o->(((s.heap.update a (Obj.mapSeq λ_=>(#[]:Array Se))).push (seqObj "tuple" vs.toArray 0)).push (seqObj "list" #[] 0)).get? b=some o:=λb o hb e=>
  RL _ (RL _ (by rw[RT _ _ _ _ hb];exact e))
 have hne:a≠s.heap.objs.size+1:=OD (PH ha);have hold:∀c o,s.heap.get? c=some o->c≠s.heap.objs.size+1:=λc o e=>OD (PH (RH e));generalize (((s.heap.update a (Obj.mapSeq λ_=>(#[]:Array Se))).push (seqObj "tuple" vs.toArray 0)).push (seqObj "list" #[] 0))=h0 at hS0 hA0 hK0;generalize s.heap.objs.size+1=kS at hS0 hne hold;unfold ksk_rest;refine SK (Tz ?_)
 first
  |rw[List.forIn_toArray]
  |(rw[<-Array.forIn_toList];simp only[QG])
  |rw[<-Array.forIn_toList]
 refine SK (ksk_fold (λi s'=>∃(ks:List Se)(e:Nat)(h':Sl)(tk:Nat),s'={s with heap:=h',toks:=tk}/\ks.length=i/\i<=vs.length/\h'.get? kS=some (seqObj "list" (List.toArray ks) e)/\h'.get? a=some (seqObj "list" #[] e1)/\
  (∀c o,c≠a->s.heap.get? c=some o->h'.get? c=some o)/\∀j,j<i->uY (keys.getD j []) h' (ks.getD j Value.none)) vs 0 _ ⟨[],0,h0,s.toks,rfl,rfl,O3 _,hS0,hA0,hK0,λj hj=>absurd hj (Nat.not_lt_zero _)⟩ ?_ ?_)
 ·rintro j x s' hx ⟨ks,e,h',tk,rfl,hlen,hle,hS,hA,hK,hT⟩;rw[Qn]at hlen hle hT;have hj:j<vs.length:=by
   rcases QH j vs.length with z|z
   ·exact z
   ·rw[QI z]at hx;cases hx
  refine SK (TV (SE (hc j x h' tk (λk s''=>∃h'' tk',s''={s with heap:=h'',toks:=tk'}/\(∀c o,h'.get? c=some o->h''.get? c=some o)/\uY (keys.getD j []) h'' k) hx hK λk h'' tk' kp tK=>⟨h'',tk',rfl,kp,tK⟩) (λk s'' hk=>?_) λ_ _ hF=>hF.elim));obtain⟨h'',tk',rfl,kp,tK⟩:=hk;have nk:=kp _ _ hS;have s1:∀c o,c≠kS->h''.get? c=some o->(h''.update kS (Obj.mapSeq (·.push k))).get? c=some o:=λc o hc' e=>by rw[RT _ _ _ _ hc'];exact e
  have ea:(List.toArray ks).push k=List.toArray (ks++[k]):=by simp
  obtain⟨c2,hc2⟩:∃c2,(h''.update kS (Obj.mapSeq (·.push k))).get? kS=some (seqObj "list" (List.toArray (ks++[k])) c2):=⟨_,by rw[<-ea];exact T3 nk (·.push k)⟩
  try dsimp only
  refine SK (T2 nk rfl ?_ (by rw[OW,SZ];omega) (OG (O1 (Array.size_push ..)) (by rw[OW,SZ];omega)));refine SJ ⟨rfl,ks++[k],c2,_,tk',rfl,by rw[Pk,Pq];omega,by omega,hc2,s1 _ _ hne (kp _ _ hA),λc o h1 h2=>s1 _ _ (hold c o h2) (kp _ _ (hK c o h1 h2)),λi hi=>?_⟩;refine uY.stay (c:=kS) ?_ nk s1;by_cases z:i=j
  ·subst z
   have:(ks++[k]).getD i Value.none=k:=(by simp[QD,<-hlen]);rw[this];exact tK
  ·have hi':i<ks.length:=by omega
   have:(ks++[k]).getD i Value.none=ks.getD i Value.none:=(by simp[QD,Pb hi']);rw[this];exact(hT i ‹0›).keep kp
 ·rintro s' ⟨ks,e,h',tk,rfl,hlen,hle,hS,hA,hK,hT⟩;rw[Qn]at hlen hT
  try dsimp only
  refine SK (listItems_at hS rfl ?_);have tail:∀(p:Array Nat)(st:SortSt),(arrOf st).map (·.2)=List.toArray (p.toList.map λi=>vs.getD i Value.none)->failedOf st=none->PM vs.length p->Up (rank keys) p vs.length->Sy (model prog w) A (ksk_tail a false e1 (.ref kS) st) P E {s with heap:=h',toks:=tk}:=by
   intro p st hout hf hp hu;obtain⟨ck,hck⟩:∃ck,(h'.update kS (Obj.mapSeq λ_=>(#[]:Array Se))).get? kS=some (seqObj "list" #[] ck):=⟨_,T3 hS λ_=>#[]⟩
   have hA2:(h'.update kS (Obj.mapSeq λ_=>(#[]:Array Se))).get? a=some (seqObj "list" #[] e1):=(by rw[RT _ _ _ _ hne];exact hA);obtain⟨c2,hc2⟩:∃c2,((h'.update kS (Obj.mapSeq λ_=>(#[]:Array Se))).update a (Obj.mapSeq λ_=>List.toArray (p.toList.map λi=>vs.getD i Value.none))).get? a=some (seqObj "list" (List.toArray (p.toList.map λi=>vs.getD i Value.none)) c2):=⟨_,T3 hA2 λ_=>List.toArray (p.toList.map λi=>vs.getD i Value.none)⟩
   unfold ksk_tail
   try dsimp only
   rw[hout];refine SK (T2 hS rfl ?_ (by rw[OW,SZ];omega) (O3 _));refine SK (TR ?_);refine SK (T5 hA2 rfl ?_);simp only[PF,if_false];refine SK (T2 hA2 rfl ?_ (O3 _) (by rw[OW,O0,Array.length_toList,hp.size,SZ];omega));rw[hf];simp only[bne_self_eq_false,PF,if_false];exact SJ (h p _ c2 tk hp hu (λc o h1 h2=>by rw[RT _ _ _ _ h1,RT _ _ _ _ (hold c o h2)];exact hK c o h1 h2) hc2)
  unfold ksk_end
  try dsimp only
  simp only[PF,if_false];have hl2:ks.length=vs.length:=hlen;by_cases h2:vs.toArray.size<2
  ·rw[if_pos h2,if_pos h2];refine SK (SJ ?_);rw[StateT.run_pure];refine SK (SJ ?_);dsimp only;refine tail (List.toArray (List.range vs.length)) _ ?_ rfl (Array.Perm.refl _) λi j hij hj=>?_
   ·refine kat_snds hl2 ?_;show(List.toArray ks).zip vs.toArray=_;have e:=kas_range ((List.toArray ks).zip vs.toArray);rw[show((List.toArray ks).zip vs.toArray).size=vs.length by simp[hl2]]at e;exact e.symm
   ·have:vs.length<2:=by simpa using h2
    have:i=j:=(by omega);subst this;exact OT _
  ·have h2':2<=vs.length:=by
    have:¬vs.length<2:=(by simpa using h2);omega
   rw[if_neg h2,if_neg h2];refine SK (CU (s:={s with heap:=h',toks:=tk}) ‹0› hsh ‹0› (λi hi=>hT i ‹0›) ?_);refine SK (SE (kat_run (Q:=λst' s'=>∃p:Array Nat,arrOf st'=p.map (kas_item ((List.toArray ks).zip vs.toArray))/\failedOf st'=none/\PM vs.length p/\Up (rank keys) p vs.length/\s'={s with heap:=h',toks:=tk})
    (G:=λp s'=>PM vs.length p/\Up (rank keys) p vs.length/\s'={s with heap:=h',toks:=tk})
    hl2 h2' h64 (λp' st' s' a1 a2 a3 a4=>⟨p',a2,a3,a4.1,a4.2.1,a4.2.2⟩) (by
     have:=zx (prog:=prog) (w:=w) (A:=A) (s:={s with heap:=h',toks:=tk}) (ks:=ks) (keys:=keys) ‹0› hsh (λi hi=>hT i ‹0›)
     rw[hl2]at this;exact Av this ‹0› λp hp hu=>⟨hp,hu,rfl⟩)) ?_ λ_ _ e=>e)
   rintro⟨⟨⟩,st'⟩ s' ⟨p,har,hf,hp,hu,rfl⟩;dsimp only;exact tail p st' (kat_snds hl2 har) hf hp hu
def yW{src:Se}{f:Si}{vs:List Se}{keys:List (List D)}{σ:List Bool}{b:Bool}{Q:Se->Sw->Prop}(h64:vs.length<64)(hl:keys.length=vs.length)(hsh:∀k∈keys,Sh (b::σ) k)
  (hcol:∀(Q':List Se->Sw->Prop),(∀h' tk,(∀b o,s.heap.get? b=some o->h'.get? b=some o)->Q' vs {s with heap:=h',toks:=tk})->Sy (model prog w) A.in1 (collect src) Q' E s)
  (hc:∀ (i:Nat) (v:Se) (h':Sl) (tk:Nat) (Q':Se->Sw->Prop),vs[i]?=some v->(∀ c o,s.heap.get? c=some o->h'.get? c=some o) ->
   (∀k h'' tk',(∀c o,h'.get? c=some o->h''.get? c=some o)->uY (keys.getD i []) h'' k->Q' k {s with heap:=h'',toks:=tk'})->Sy (model prog w) A.in1.in1 (call (.ref f) [v]) Q' (λ_ _=>False) {s with heap:=h',toks:=tk})
  (h:∀(p:Array Nat)(h1 h':Sl)(l:Si)(e tk:Nat),PM vs.length p->Up (rank keys) p vs.length->(∀b o,s.heap.get? b=some o->h1.get? b=some o)->(∀b o,h1.get? b=some o->h'.get? b=some o)->h1.objs.size<=l->h'.get? l=some (seqObj "list" (List.toArray (p.toList.map λi=>vs.getD i Value.none)) e)->Q (.ref l) {s with heap:=h',toks:=tk}):
  Sy (model prog w) A (call (.builtin "sorted") [src] [(Str.ofString "key",.ref f)]) Q E s:=by
 refine PyProof.Rows.call_function_entry_kw kind_sorted plain_sorted entry_sorted (ksk_s1 _ _) ?_;unfold Builtin.«sorted»;refine SK (m:=checkCount "sorted" 1 1 _) (SJ ?_);refine SK (hcol _ λh1 tk k1=>?_);refine SK (T6 ?_ (by rw[SZ];omega));have hoL:(h1.push (seqObj "list" vs.toArray 0)).get? h1.objs.size=some (seqObj "list" vs.toArray 0):=RM _ rfl;have k2:∀b o,s.heap.get? b=some o->(h1.push (seqObj "list" vs.toArray 0)).get? b=some o:=λb o e=>RL _ (k1 b o e);have ne:∀b o,s.heap.get? b=some o->b≠h1.objs.size:=λb o e=>OD (RH (k1 b o e));refine SK (Tl (wpAny_call_entry_kw slot_list_sort ⟨_,hoL,rfl⟩ entry_list_sort ?body (ksk_l1 _ _)))
 case body=>
  show Sy (model prog w) A.in1.in1 (Builtin.«list.sort» ⟨[.ref h1.objs.size],[(Str.ofString "key",.ref f)]⟩) _ _ _;rw[ksk_t1];refine Es (s:={s with heap:=h1.push (seqObj "list" vs.toArray 0),toks:=tk}) hoL h64 hl hsh (λi v h' tk' Q' hv hk hq=>hc i v h' tk' Q' hv (λc o e=>hk c o (ne c o e) (k2 c o e)) hq) λp h' e tk' hp hu hk he=>⟨_,rfl,?_⟩
  refine SJ ⟨_,rfl,?_⟩;exact h p h1 h' h1.objs.size e tk' hp hu k1 (λb o q=>hk b o (OD (RH q)) (RL _ q)) (OT _) he
end
end TG
namespace TG
open PySem PySem.Spec PyProof.Rows PySem.W L2
variable[bh]
abbrev cutE(row many:Str)(np mp p2 pos:Pos):Sz:=.Subscript (.Name row np) (.Slice none (some (.Name many mp)) none p2) pos
section
variable{prog:Sg}{w:Sf}{A:Sv}{E:Se->Sw->Prop}{s:Sw}
def DF{env:Env}{row many:Str}{np mp p2 pos:Pos}{r c:Si}{items:Array Se}{i:Int}{t:Tok}{m:Str->Option Se}{Q:Se->Sw->Prop}
  (hk:env.scope.kind=.function) (hr:env.kindOf row=some .local) (hm:env.kindOf many=some .free) (hn:s.heap.Ns env.locals m) (hrow:m row=some (.ref r)) (hc:env.cells.lookup many=some c) (hcell:s.heap.IsCell c (some (.int i t)))
  (ht:Sq s.heap r items) (hz:items.size<=Sn) (d1:(row==("__debug__":Str))=false) (d2:(many==("__debug__":Str))=false) (d3:(many==("__classdict__":Str))=false)
  (h:∀b h',(∀c o,s.heap.get? c=some o->h'.get? c=some o)->Sq h' b (List.toArray (items.toList.take (HT.sIx items.size items.size (some i))))->Q (.ref b) {s with heap:=h'}):
  Sy (model prog w) A (eval (cutE row many np mp p2 pos) env) Q E s:=by
 refine Ts (SF (wpAny_loadName_local hk hr hn hrow ?_) d1);refine wpAny_Slice ?_;rw[Tr,evalPart_some];refine SJ (SF (wpAny_loadName_free hk hm hc hcell ?_ d3) d2);refine SJ ?_;have kp:∀c o,s.heap.get? c=some o->(s.heap.push {cls:=.type "slice",data:=.fields #[.none,.int i t,.none]}).get? c=some o:=λc o q=>RL _ q;have ht':Sq (s.heap.push {cls:=.type "slice",data:=.fields #[.none,.int i t,.none]}) r items:=by
  obtain⟨o,e,q⟩:=ht;exact⟨o,kp _ _ e,q⟩
 have hs:(s.heap.push {cls:=.type "slice",data:=.fields #[.none,.int i t,.none]}).IsSliceOf s.heap.objs.size .none (.int i t) .none:=Heap.IsSliceOf.new ..
 show Sy (model prog w) A (subscriptTail (.Name row np) (.Slice none (some (.Name many mp)) none p2) (.ref r) (.ref s.heap.objs.size)) Q E {s with heap:=s.heap.push {cls:=.type "slice",data:=.fields #[.none,.int i t,.none]}};refine tail_any (ops:=[.ref s.heap.objs.size,.ref r]) ht'.typeIs slot_tuple_getitem.lookup ?_ (by with_unfolding_all rfl);by_cases hw:HT.sIx items.size 0 none=0/\HT.sIx items.size items.size (some i)=items.size
 ·refine jr (s:={s with heap:=s.heap.push {cls:=.type "slice",data:=.fields #[.none,.int i t,.none]}}) ht' hs .none (.int i t) hw ?_;refine h r _ kp ?_;rw[hw.2]
  have:items.toList.take items.size=items.toList:=QJ (by simp)
  rw[this]
  simpa using ht'
 ·refine HT.A7 (s:={s with heap:=s.heap.push {cls:=.type "slice",data:=.fields #[.none,.int i t,.none]}}) ht' hs .none (.int i t) hw ?_ hz;refine h _ _ (λc o q=>RL _ (kp c o q)) ?_;have e0:HT.sIx items.size 0 none=0:=rfl;rw[e0,PN,P9];exact⟨_,RM _ rfl,rfl,_,rfl⟩
def Ew{f c' cc r:Si}{row many qual:Str}{params:Te}{scope:Sx}{np mp p2 pos:Pos}{pm ctv:Se}{items:Array Se}{i:Int}{t:Tok}{Q:Se->Sw->Prop}
  (hf:s.heap.get? f=some (T8 "<lambda>" qual params (cutE row many np mp p2 pos) scope [(many,cc)] pm c' ctv)) (hcd:s.heap.CodeRec (.ref c') qual) (hroom:A.depth<S5) (hlim:s.heap.NoLimit)
  (hbind:∀v,bindArgs (kla_fn "<lambda>" qual params (cutE row many np mp p2 pos) scope [(many,cc)] pm (.ref c') ctv) ⟨[v],[]⟩=pure [(row,v)])
  (hco:scope.isCoroutine=false) (hgen:scope.isGenerator=false) (hk:scope.kind=.function) (hno:∀x∈scope.names,x.2≠.cell) (hr:scope.names.lookup row=some .local) (hm:scope.names.lookup many=some .free)
  (hcell:s.heap.IsCell cc (some (.int i t))) (ht:Sq s.heap r items) (hz:items.size<=Sn) (d1:(row==("__debug__":Str))=false) (d2:(many==("__debug__":Str))=false) (d3:(many==("__classdict__":Str))=false)
  (h:∀b h' tk,(∀c o,s.heap.get? c=some o->h'.get? c=some o)->Sq h' b (List.toArray (items.toList.take (HT.sIx items.size items.size (some i))))->Q (.ref b) {s with heap:=h',toks:=tk}):
  Sy (model prog w) A (call (.ref f) [.ref r]) Q E s:=by
 refine S9 (kla_callFunE hroom hf rfl hco hgen rfl hcd ?_);rw[hbind];refine SJ (wpAny_newFunctionEnv hno (λx hx=>?_) (λh₁ hns hsb=>⟨hlim.fresh _ hsb,?_⟩) hk)
 ·rw[QK]at hx;subst hx;exact hr
 ·show S0 _ _ (.expr (cutE row many np mp p2 pos) (envX qual scope s.heap.objs.size f (.ref c') [(many,cc)])) _ _;have hk₁:∀b o,s.heap.get? b=some o->h₁.get? b=some o:=λb o e=>hsb.extBut b o (OD (RH e)) (RL _ e);refine kla_codeExpr (DF (m:=λx=>[(row,Value.ref r)].reverse.lookup x) (r:=r) (c:=cc) (t:=t) hk hr hm hns ?_ ?_ ?_ ?_ hz d1 d2 d3 λb h' kp tb=>h b h' _ (λc o e=>kp c o (hk₁ c o e)) tb)
  ·simp
  ·simp
  ·obtain⟨o,e,q⟩:=hcell;exact⟨o,hk₁ _ _ e,q⟩
  ·obtain⟨o,e,q⟩:=ht;exact⟨o,hk₁ _ _ e,q⟩
end
end TG
namespace TG
open PySem PySem.Spec PyProof.Rows PySem.W L2
variable[bh]
def Bw(mg:Str->Option Se)(base:Sl)(c P:Si):Prop:=CodeHd base c P/\∃bm ob,mg "__builtins__"=some (.ref bm)/\bm≠Ss/\base.get? bm=some ob/\ob.cls=.type "module"/\ob.dict=some Ss/\ob.data=.plain
section
variable{fs ex:List Si}{Pg:Sg}{w:Sf}{H:Hp}{h h':Sl}{P c':Si}{φ:(Si->Prop)->Sl->Prop}
def Iz(hP:H P=some (.ext φ))(k:∀b o,b≠P->h.get? b=some o->h'.get? b=some o)(hp:∃o,h'.get? P=some o)(hc:h.objs.size<=c')(hn:H c'=none):Un fs ex H (upd H c' (.own P)) h h' where
 keep:=λb u q n _ _=>k b u (λz=>by rw[z,hP]at n;cases n) q
 slot:=λb u q n _ _=>⟨u.slots,k b u (λz=>by rw[z,hP]at n;cases n) q⟩
 free:=λb u q n _=>by rw[bp (OD (OB (RH q) hc))];exact n
 there:=λb u q _=>by
  by_cases z:b=P
  ·rw[z];exact hp
  ·exact⟨u,k b u z q⟩
 tups:=λb xs q=>by rw[bp (bH q hn)];exact q
 frzs:=λb u xs q=>by rw[bp (bH q hn)];exact q
 tbls:=λb ps q=>⟨#[],by rw[bp (bH q hn),q];simp⟩
def GA(x:pA Pg w H h)(hP:H P=some (.ext φ))(k:∀b o,b≠P->h.get? b=some o->h'.get? b=some o)(hc:h.objs.size<=c')(ho:∃o,h'.get? c'=some o)(new:dq Pg w (upd H c' (.own P)) h' P (.ext φ)):pA Pg w (upd H c' (.own P)) h':=λb u e=>by
 have hn:=x.fresh hc;by_cases hb:b=c'
 ·subst hb;rw[bI]at e;cases e;exact ho
 ·rw[bp hb]at e;by_cases hb2:b=P
  ·subst hb2;rw[hP]at e;cases e;exact new
  ·refine(x b u e).stay (λc v hc' q=>k c v ?_ q) (λc q=>by rw[bp (bH q hn)];exact q) λc xs q=>by rw[bp (bH q hn)];exact q
   rcases hc' with rfl|hc'
   ·exact hb2
   ·rintro rfl;rw[hP]at hc';cases hc'
end
def Bw.blt{mg:Str->Option Se}{base h:Sl}{c P:Si}{m:Str->Option Se}(B:Bw mg base c P)(kp:∀b o,base.get? b=some o->h.get? b=some o)(hP:base.get? P=none)(hg:base.Ns Sr m):h.BuiltinsAt mg P:=by
 obtain⟨_,bm,ob,b1,b2,b3,b4,b5,b6⟩:=B;refine⟨bm,ob,b1,b2,λz=>?_,λz=>?_,kp _ _ b3,b4,b5,b6⟩
 ·subst z;obtain⟨o,es,ep,e,hd,_⟩:=hg;rw[e]at b3;cases b3;rw[hd]at b6;cases b6
 ·subst z;rw[hP]at b3;cases b3
section
variable{X:Cx}{pins:List (Si×Obj)}{s:Sw}{σ:L2.St}{H:Hp}{E:Se->Sw->Prop}
def Do{c P:Si}{lpos:Pos}{params:Te}{body:Sz}{scope:Sx}{clos:List (Str×Si)}{Q:Se->Sw->Prop}(I:Inv X pins σ H s)(B:Bw X.mg X.base c P)(hcode:X.env.code=.ref c)(hP:H P=some (.ext (pR P lpos (X.env.qual++"<lambda>"))))
  (hdef:defaultsOf params X.env=([],[])) (hcl:closureFor scope X.env=pure clos)
  (h:∀f c' ctv s' H',Inv X pins σ H' s'->bT H H'->s'.heap.get? f=some (T8 "<lambda>" (X.env.qual++"<lambda>") params body scope clos ((X.mg "__name__").getD .none) c' ctv)->s'.heap.CodeRec (.ref c') (X.env.qual++"<lambda>")->Q (.ref f) s'):
  Sy (model X.prog X.w) X.A (eval (.Lambda params body scope lpos) X.env) Q E s:=by
 have hg:s.heap.Ns Sr X.mg:=I.mod.glob.keeps I.bk;have hPn:X.base.get? P=none:=by
  cases q:X.base.get? P with
  |none=>rfl
  |some o=>have:=(I.bs P o q).2;rw[hP]at this;cases this
 have hgP:Sr≠P:=λz=>by
  obtain⟨o,es,ep,e,_⟩:=I.mod.glob;rw[z,hPn]at e;cases e
 have hb:=B.blt I.bk hPn I.mod.glob;have C:=B.1.keeps I.bk;obtain⟨tb,_,_⟩:=I.hok P _ hP;refine kla_eval hdef ?_;rcases tb with e|⟨c',hc',e,hrec⟩
 ·refine kla_makeFunction hcl I.ok.glob hg hcode C e trivial rfl hgP hb λc' ctv h' tk hx hge hlt hrec htb=>?_;have hn:=I.hok.fresh hge;have htb':h'.get? P=some (tabObj #[rawInt lpos.line,rawInt lpos.col,.ref c']):=by simpa using htb
  have kp:∀b o,b≠P->s.heap.get? b=some o->(h'.push (T8 "<lambda>" (X.env.qual++"<lambda>") params body scope clos ((X.mg "__name__").getD .none) c' ctv)).get? b=some o:=λb o hb' q=>RL _ (hx b o hb' q);have hrec':(h'.push (T8 "<lambda>" (X.env.qual++"<lambda>") params body scope clos ((X.mg "__name__").getD .none) c' ctv)).CodeRec (.ref c') (X.env.qual++"<lambda>"):=by
   obtain⟨c2,oc,vs,t,ec,eo,r⟩:=hrec;exact⟨c2,oc,vs,t,ec,RL _ eo,r⟩
  have hco:∃o,(h'.push (T8 "<lambda>" (X.env.qual++"<lambda>") params body scope clos ((X.mg "__name__").getD .none) c' ctv)).get? c'=some o:=by
   obtain⟨c2,oc,vs,t,ec,eo,r⟩:=hrec;cases ec;exact⟨oc,RL _ eo⟩
  refine h _ c' ctv _ (upd H c' (.own P)) (I.un (Iz hP kp ⟨_,RL _ htb'⟩ hge hn) (GA I.hok hP kp hge hco (pR.ok (.inr ⟨c',bI,RL _ htb',hrec'⟩)))) (cI hn _) (RM _ rfl) hrec'
 ·refine kla_makeFunctionHit (cv:=.ref c') hcl I.ok.glob hg hcode C e trivial ?_ hb λctv h' tk hk hsz=>?_
  ·show(if((lpos.line:Int)==(lpos.line:Int)&&(lpos.col:Int)==(lpos.col:Int))=true then some (Value.ref c')else _)=_;simp
  ·have kp:∀b o,s.heap.get? b=some o->(h'.push (T8 "<lambda>" (X.env.qual++"<lambda>") params body scope clos ((X.mg "__name__").getD .none) c' ctv)).get? b=some o:=λb o q=>RL _ (hk b o q);refine h _ c' ctv _ H (I.kept kp) (bT.refl H) (RM _ rfl) ?_;obtain⟨c2,oc,vs,t,ec,eo,r⟩:=hrec;exact⟨c2,oc,vs,t,ec,kp _ _ eo,r⟩
end
def uI(m:Nat):D->List D
 |.tup ks=>ks.take m
 |_=>[]
def KZ(m:Nat)(xs:List D):Prop:=xs.length<64/\∃σ:List Bool,σ≠[]/\(∀x∈xs,∃k,x=.tup k/\Sh σ (k.take m))/\xs.Pairwise λx y=>uI m x≠uI m y
open Classical in
noncomputable def sL(m:Nat)(xs:List D):Option D:=if KZ m xs then some (.lst (jq (uI m) xs))else none
noncomputable def qe:D->D->Option D
 |.lst xs,.int i=>if 0<=i then sL i.toNat xs else none
 |.tup xs,.int i=>if 0<=i then sL i.toNat xs else none
 |_,_=>none
def vO:∀{vs:List V}{us:List Se}(n:Nat),Vals vs us->Vals (vs.take n) (us.take n)
 |_,_,0,_=>by rw[PK,PK];exact .nil
 |_,_,_+1,.nil=>.nil
 |_,_,n+1,.cons r t=>by rw[PL,PL];exact .cons r (vO n t)
def Fj{i:Int}(h:0<=i)(n:Nat):HT.sIx n n (some i)=min i.toNat n:=by
 show(if i<0 then _ else _)=_;rw[if_neg ‹0›]
def hZ:Su "sorted"=some (.builtin "sorted"):=by first|rfl|decide +kernel
section
variable{X:Cx}{pins:List (Si×Obj)}{s:Sw}{σ:L2.St}{H:Hp}{O:List Si}
def zt{u:Se}{ds:List D}{vs:List V}{its:List Se}{d:D}{i:Int}{t:Tok}{c' cc f:Si}{row many qual:Str}{params:Te}{scope:Sx}{np mp p2 pos:Pos}{pm ctv:Se}{Q:VK}
  (I:Inv X pins σ H s) (hO:fT H O) (dn:bx X.K (hid H O) ds vs) (rv:Vals vs its) (h0:0<=i) (hs:sL i.toNat ds=some d)
  (hf:s.heap.get? f=some (T8 "<lambda>" qual params (cutE row many np mp p2 pos) scope [(many,cc)] pm c' ctv)) (hcd:s.heap.CodeRec (.ref c') qual) (hroom:X.A.depth<S5)
  (hbind:∀v,bindArgs (kla_fn "<lambda>" qual params (cutE row many np mp p2 pos) scope [(many,cc)] pm (.ref c') ctv) ⟨[v],[]⟩=pure [(row,v)])
  (hco:scope.isCoroutine=false) (hgen:scope.isGenerator=false) (hk:scope.kind=.function) (hno:∀x∈scope.names,x.2≠.cell) (hr:scope.names.lookup row=some .local) (hm:scope.names.lookup many=some .free)
  (hcell:s.heap.IsCell cc (some (.int i t))) (d1:(row==("__debug__":Str))=false) (d2:(many==("__debug__":Str))=false) (d3:(many==("__classdict__":Str))=false)
  (hcol:∀(Q':List Se->Sw->Prop),(∀h' tk,(∀b o,s.heap.get? b=some o->h'.get? b=some o)->Q' its {s with heap:=h',toks:=tk})->Sy (model X.prog X.w) X.A.in1 (collect u) Q' X.xe s)
  (q:∀v H',bT H H'->dD X.K (hid H' O) d v->Q v H'):Sy (model X.prog X.w) X.A (call (.builtin "sorted") [u] [(Str.ofString "key",.ref f)]) (EP X pins σ Q) X.xe s:=by
 have l1:=dn.length;have l2:=rv.length;unfold sL at hs;split at hs
 ·rename_i hS;cases hs;obtain⟨h64,σ',hσ,hsh,pw⟩:=hS;obtain⟨b,σ1,rfl⟩:∃b σ1,σ'=b::σ1:=by
   cases σ' with
   |nil=>exact absurd rfl hσ
   |cons b σ1=>exact⟨b,σ1,rfl⟩
  have hsh':∀x∈ds,Sh (b::σ1) (uI i.toNat x):=λx hx=>by
   obtain⟨k,rfl,hk⟩:=hsh x hx;exact hk
  refine yW (keys:=ds.map (uI i.toNat)) (σ:=σ1) (b:=b) ‹0› (by rw[O0];omega) (λk hk=>by obtain⟨x,hx,rfl⟩:=List.mem_map.mp hk;exact hsh' x hx) hcol (λj v h' tk Q' hv kp hq=>?_) λp h1 h' l e tk hp hu k1 k2 hl he=>?_
  ·have hj:j<its.length:=by
    rcases QH j its.length with z|z
    ·exact z
    ·rw[QI z]at hv;cases hv
   have hj':j<ds.length:=(by omega);obtain⟨v0,e1,dv⟩:=dn.get (i:=j) (d:=ds[j]) (by simp[hj']);obtain⟨w,e2,rw'⟩:=rv.get e1;rw[hv]at e2;cases e2;obtain⟨k,ek,hk'⟩:=hsh _ (QB hj');have ekey:(ds.map (uI i.toNat)).getD j []=k.take i.toNat:=by
    have:(ds.map (uI i.toNat)).getD j []=uI i.toNat ds[j]:=(by simp[hj']);rw[this,ek];rfl
   rw[ekey]at hq;rw[ek]at dv;obtain⟨a,ws,rfl,ha,dk⟩:=cZ.mp dv;cases rw';obtain⟨it2,r2,ht,hz⟩:=I.tuple (cE (aU H O) ha);have hz':it2.toArray.size<=Sn:=(by rw[OW,<-r2.length];exact hz);refine Ew (s:={s with heap:=h',toks:=tk}) (i:=i) (t:=t) (kp _ _ hf) ?_ hroom (I.nolimit.keeps kp) hbind hco hgen hk hno hr hm ?_ (items:=it2.toArray) ?_ hz' d1 d2 d3 λb2 h'' tk' kp2 tb=>?_
   ·obtain⟨c2,oc,vs',t',ec,eo,r⟩:=hcd;exact⟨c2,oc,vs',t',ec,kp _ _ eo,r⟩
   ·obtain⟨o,e,q⟩:=hcell;exact⟨o,kp _ _ e,q⟩
   ·obtain⟨o,e,q⟩:=ht;exact⟨o,kp _ _ e,q⟩
   ·refine hq _ h'' tk' kp2 ?_;obtain⟨o,eo,hc,n,hd⟩:=tb;refine⟨b2,o,_,n,rfl,eo,hc,hd,?_⟩;have e3:(List.toArray (it2.toArray.toList.take (HT.sIx it2.toArray.size it2.toArray.size (some i)))).toList=it2.take i.toNat:=by
     rw[Fj h0];simp only[OW,QG];rcases QL i.toNat it2.length with z|z
     ·rw[QM z]
     ·rw[QN z,QJ (OT _),QJ z]
    rw[e3];exact ly (sy hk') (dk.take i.toNat) (vO i.toNat r2)
  ·have el:its.length=ds.length:=(by omega);rw[el]at hp hu;have ps:=rk (key:=uI i.toNat) hsh' pw hp hu;have hr:p.toList.Perm (List.range ds.length):=by
    have:=Array.perm_iff_toList_perm.mp hp
    simpa using this
   have hlt:∀i∈p.toList,i<ds.length:=λi hi=>by simpa using hr.mem_iff.mp hi
   have I1:Inv X pins σ H {s with heap:=h1,toks:=tk}:=I.kept k1;have hn:H l=none:=I1.hok.fresh hl;have rv':=qJ rv p.toList λi hi=>by have:=hlt i hi;omega
   have dn':=qd dn p.toList hlt;have hlen:p.toList.length=ds.length:=(by rw[hr.length_eq,P8]);refine⟨.ref l,_,Inv.laid (s:={s with heap:=h1,toks:=tk}) (t':=tk) I1 k2 hl (show dq X.prog X.w _ h' _ (.lst (p.toList.map λi=>vs.getD i .non))from⟨by rw[O0,hlen,SZ];omega,_,e,rv',he⟩),rfl,?_⟩;refine q _ _ (cI hn _) ?_;rw[<-ps];exact dY hO hn dn'
 ·cases hs
def Kr{f:FX}{j:Nat}{k:Nat}{c P cc:Si}{e:Sz}{p lpos kp pos np mp p2 spos:Pos}{row many:Str}{params:Te}{scope:Sx}
  (hr:gP k X.A) (hg:Gl X "sorted") (hm:X.mg "sorted"=none) (B:Bw X.mg X.base c P) (hcode:X.env.code=.ref c) (hT:∀H,bh.tab H->H P=some (.ext (pR P lpos (X.env.qual++"<lambda>"))))
  (he:FE X e f) (hN:X.N[j]?=some many) (hkm:X.env.kindOf many=some .cell) (hv:Ig X.env.scope many) (hcc:X.env.cells.lookup many=some cc) (hcl:closureFor scope X.env=pure [(many,cc)]) (hdef:defaultsOf params X.env=([],[]))
  (hbind:∀cdv ctv v,bindArgs (RB "<lambda>" (X.env.qual++"<lambda>") params (cutE row many np mp p2 spos) scope [(many,cc)] ((X.mg "__name__").getD .none) cdv ctv) ⟨[v],[]⟩=pure [(row,v)])
  (hco:scope.isCoroutine=false) (hgen:scope.isGenerator=false) (hk:scope.kind=.function) (hno:∀x∈scope.names,x.2≠.cell) (hlr:scope.names.lookup row=some .local) (hlm:scope.names.lookup many=some .free)
  (d1:(row==("__debug__":Str))=false) (d2:(many==("__debug__":Str))=false) (d3:(many==("__classdict__":Str))=false) (hns:noStar e=true:=by rfl):
  FE X (.Call (.Name "sorted" p) [e] [⟨some "key",.Lambda params (cutE row many np mp p2 spos) scope lpos,kp⟩] pos) (f2 qe f (ah j)):=by
 intro pins s σ H Q I ⟨O,ρ,E,hF⟩;refine Tc (nn I hg hm hZ ?_);have st:backTo pos (SA [e] X.env)=(false,eval e X.env)::backTo pos (SA [] X.env):=by rw[fN hns];rfl
 refine PyProof.Rows.callWith_kw ?_ ?_ (jd (by rw[PQ,hns];rfl))
 ·refine eZ (pj he wq (fN hns) pos pins s σ H (λvs H1=>∃v d a m,vs=[v]/\bT H H1/\ρ[j]?=some (some (.val m))/\qe a m=some d/\dD X.K (hid H1 O) a v/\∀v H',bT H H'->dD X.K (hid H' O) d v->Q v H') I ⟨O,ρ,E,(jJ.bind hF).imp λa hF v H1 s1 d1=>?_⟩) λus s1 ⟨vs,H1,I1,rv,v,d,a,m,ev,s1',em,hd,dn,q⟩=>?_
  ·obtain⟨m,em,hF⟩:=vT (jJ.bind hF);obtain⟨d,e,q⟩:=jJ.rO hF;exact⟨v,d,a,m,rfl,s1,em,e,d1,q⟩
  ·subst ev;obtain⟨u,eu,ru⟩:=vals1 rv;subst eu;have E1:=E.same s1';show Sy _ _ (evalAll ((do let v<-eval (.Lambda params (cutE row many np mp p2 spos) scope lpos) X.env;standAt pos;pure v)::[])) _ _ s1;refine wpAny_evalAll_cons (SK (Do I1 B hcode (hT _ E1.all.1) hdef hcl λfa c' ctv s2 H2 I2 s2' hfa hcr=>SK (Tw (SJ (wpAny_evalAll_nil ?_)))));show Sy (model X.prog X.w) X.A (call (.builtin "sorted") [u] [(Str.ofString "key",.ref fa)]) (EP X pins σ Q) X.xe s2;have E2:=E1.same s2';obtain⟨vm,e3,dm⟩:=E2.val j m em;have core:∀(i:Int)(xs:List D),m=.int i->0<=i->sL i.toNat xs=some d->∀(ys:List V)(its:List Se),bx X.K (hid H2 O) xs ys->Vals ys its->
     (∀(Q':List Se->Sw->Prop),(∀h' tk,(∀b o,s2.heap.get? b=some o->h'.get? b=some o)->Q' its {s2 with heap:=h',toks:=tk})->Sy (model X.prog X.w) X.A.in1 (collect u) Q' X.xe s2)->
     Sy (model X.prog X.w) X.A (call (.builtin "sorted") [u] [(Str.ofString "key",.ref fa)]) (EP X pins σ Q) X.xe s2:=by
    intro i xs ei h0 hs ys its dl ri hcol;subst ei;rw[gG]at dm;subst dm;obtain⟨mm,hns',hl⟩:=I2.loc;obtain⟨uv,ruv,lk⟩:=hl j many (.int i) hN e3 hv;obtain⟨t,rfl⟩:=ruv;have hcell:s2.heap.IsCell cc (some (.int i t)):=by
     rcases lk with⟨z,_⟩|⟨_,c2,ec,hc2⟩
     ·rw[hkm]at z;cases z
     ·rw[hcc]at ec;cases ec;exact hc2
    have dp:=hr.dp;exact zt I2 E2.all dl ri h0 hs hfa hcr ‹0› (λv=>hbind (.ref c') ctv v) hco hgen hk hno hlr hlm hcell d1 d2 d3 hcol λv H' sm dd=>q v H' ((s1'.trans s2').trans sm) dd
   have dn2:=dn.mono (cH (O:=O) s2');unfold qe at hd;split at hd
   ·rename_i xs i;split at hd
    ·rename_i h0;obtain⟨l,ys,el,g1,g2⟩:=cX.mp dn2;subst el;cases ru;obtain⟨its,ri,pl,hz⟩:=I2.list ((aU H2 O).seq g1);have hlen:=ri.length;obtain⟨o,ho,hc,n,hd'⟩:=pl.isList;exact core i xs rfl h0 hd ys its g2 ri λQ' hQ=>T7 l (.inl rfl) ho hc hd' (λh' k=>by simpa using hQ h' s2.toks k) (by simp only[OW]<;>omega)
    ·cases hd
   ·rename_i xs i;split at hd
    ·rename_i h0;obtain⟨l,ys,el,g1,g2⟩:=cZ.mp dn2;subst el;cases ru;obtain⟨its,ri,⟨o,ho,hc,n,hd'⟩,hz⟩:=I2.tuple (cE (aU H2 O) g1);have hlen:=ri.length;exact core i xs rfl h0 hd ys its g2 ri λQ' hQ=>T7 l (.inr rfl) ho hc hd' (λh' k=>by simpa using hQ h' s2.toks k) (by simp only[OW]<;>omega)
    ·cases hd
   ·cases hd
 ·exact st
end
end TG
namespace TG
open PySem PySem.Spec PyProof.Rows PySem.W L2
section
variable[bh]{P:Sg}{w:Sf}{K:Q7}{mg:Str->Option Se}{base:Sl}
def vK(K:Q7)(f:Si)(cdv:Se):Prop:=∃oc od fd sl,K.lookup f=some ⟨oc,od,.func fd,sl⟩/\fd.code=cdv
def vK.one{f:Si}{a b:Se}(h:vK K f a)(h':vK K f b):a=b:=by
 obtain⟨oc,od,fd,sl,e,r⟩:=h;obtain⟨oc',od',fd',sl',e',r'⟩:=h';rw[e]at e';cases e';rw[<-r,<-r']
structure xo(P:Sg)(w:Sf)(K:Q7)(mg:Str->Option Se)(base:Sl)(k:Nat)(N:List Str)(qual:Str)(st:SD)(f:Si)(B:cK):Prop where
 h:∀(cdv:Se)(A:Sv)(outer:List Env)(s:Sw)(H:Hp)(E:XK),vK K f cdv->gP k (A.deeper (envOfC qual (aA st) s.heap.objs.size f cdv))->SM (model P w) (A.deeper (envOfC qual (aA st) s.heap.objs.size f cdv)) (envOfC qual (aA st) s.heap.objs.size f cdv) (kC (oN P w) P w K mg base N qual (aA st) f cdv A outer s H E).xe->
  Bi (kC (oN P w) P w K mg base N qual (aA st) f cdv A outer s H E) (gr st) B
def Eg{x qual:Str}{st:SD}{f:Si}{fd:S7}{N ps:List Str}{k:Nat}{B:cK}(F:uG K x qual st f fd)(SC:aX N ps (aA st))(hb:xo P w K mg base k N qual st f B):
  jV P w K mg base (oN P w) (k+1) f fd ps (C2 K ps.length (aN B ps.length N.length)):=by
 obtain⟨oc,od,kV,doc,pm,an,cd,ct,osl,rfl,lk,hcd⟩:=F.ex;refine Di lk hcd SC (λvs H Q E h=>?_) λA outer s H vs Q E hr h=>?_
 ·obtain⟨O,ds,h1,_⟩:=h;exact h1
 ·obtain⟨O,ds,h1,h2,h3,h4⟩:=h;have hl:ds.length=ps.length:=h3.length.trans h1;have e4:aN B ps.length N.length ds=B K0 (env0 N.length ds):=by unfold aN;rw[if_pos hl]
  rw[e4]at h4;refine⟨_,hb.h cd A outer s H E ⟨_,_,_,_,lk,rfl⟩ hr PassesOwn.leaving H O,O,env0 N.length ds,K0,_,⟨uz h2 h3,⟨bT.refl H,λ_ z=>z,λa z=>.inl z⟩,λi xs a e=>?_,λi d e=>by obtain⟨d',_,e2⟩:=jQ i _ e;cases e2⟩,rfl,?_⟩
  ·obtain⟨d',_,e2⟩:=jQ i _ e;cases e2
  ·generalize B K0 (env0 N.length ds)=r at h4;refine⟨λz=>by rw[z]at h4;exact h4,λO' ρ' σ' H' S e=>?_,λO' ρ' σ' H' S e=>?_,λO' ρ' σ' H' S e=>?_,λd O' v H' e b dv=>?_,λO' ρ' σ' H' x S e=>?_⟩
   ·have e:(.ok .non:R D)=r:=e;subst e;exact h4 .non H' S.base.same (md.mpr rfl)
   ·have e:(un:R D)=r:=e;subst e;exact h4.elim
   ·have e:(un:R D)=r:=e;subst e;exact h4.elim
   ·subst e;exact h4 v H' b.same (dv.mono (jI b.sub))
   ·have e:(.error (some x):R D)=r:=e;subst e;exact C6 h4 S.base.same S.base.sub
def Ao{x qual:Str}{st:SD}{f:Si}{fd:S7}{N ps:List Str}{k:Nat}{B:cK}(F:uG K x qual st f fd)(b:Binds K fd ps [])(m:mg x=some (.ref f))(SC:aX N ps (aA st))(hb:xo P w K mg base k N qual st f B):
  Callee P w K mg base (k+1) x ps (aN B ps.length N.length):=⟨f,fd,Eg F SC hb,b,F.kp,m⟩
end
def zP(mg:Str->Option Se)(base:Sl):Prop:=∃bm ob,mg "__builtins__"=some (.ref bm)/\bm≠Ss/\base.get? bm=some ob/\ob.cls=.type "module"/\ob.dict=some Ss/\ob.data=.plain
def GY{K:Q7}{mg:Str->Option Se}{base:Sl}{c P:Si}(X:K.In base)(e:codeHdIn K c P=true)(b:zP mg base):Bw mg base c P:=⟨codeHd_of_K X e,b⟩
def Gh{P:Sg}{w:Sf}{K:Q7}{mg mb:Str->Option Se}{CX:zF}{k:Nat}{fa a c T:Si}{lpos:Pos}{q:Str}{fd:S7}{x:Str}{sp:Sp}{s₁:Sw}{vs:List Se}{ns:List Int}
  (KX:K.In s₁.heap) (hns:s₁.heap.Ns Sr mg) (hb:s₁.heap.Ns Ss mb) (hbb:∀x:Str,x≠"__name__"->mb x=Su x) (hlim:s₁.heap.NoLimit) (hg:s₁.gens=#[]) (hbm:zP mg s₁.heap)
  (hT:s₁.heap.get? T=some (tabObj #[])) (hC:codeHdIn K c T=true) (hKT:K.lookup T=none)
  (ha:s₁.heap.get? a=some {cls:=.type "list",data:=.seq vs.toArray}) (hi:IntsAre vs ns) (hl:ns.length<=Sn) (hr:gP k callerA)
  (F:∀base:Sl,K.In base->base.Ns Sr mg->zP mg base->jV P w K mg base CX k fa fd [x] sp) (hbind:∀(s:Sw)(u:Se),S8 s fd ⟨[u],[]⟩ [(x,u)])
  (hsp:∀H:Hp,H T=some (.ext (pR T lpos q))->o9 K H a (ns.map V.int)->sp [.ref a] H (λv H'=>v=.bl true/\bT H H') λ_ _ _=>False)
  (hCX:∀H e s',CX [] H s₁ (λ_ _ _=>False) e s'->False):
  S0 (model P w) callerA (.call (.ref fa) ⟨[.ref a],[]⟩) (λr s'=>r=.ok (.ret (.bool true))/\OldK s₁.heap s'.heap/\s'.os=s₁.os/\AllBare s'.gens) s₁:=by
 have rv:=vB hi;have lenV:=hi.length;have aT:a≠T:=λz=>by rw[z,hT]at ha;cases ha
 obtain⟨H,hH⟩:∃H:Hp,H=λb=>if b=T then some (.ext (pR T lpos q))else if b=a/\(K.lookup a).isNone=true then some (.frz {cls:=.type "list",data:=.seq vs.toArray} (.lst (ns.map V.int)))else none:=⟨_,rfl⟩
 have hHT:H T=some (.ext (pR T lpos q)):=by rw[hH];exact if_pos rfl
 have cases':∀b u,H b=some u->(b=T/\u=.ext (pR T lpos q))\/(b=a/\K.lookup a=none/\u=.frz {cls:=.type "list",data:=.seq vs.toArray} (.lst (ns.map V.int))):=λb u e=>by
  rw[hH]at e;by_cases z:b=T
  ·have e:=(if_pos z).symm.trans e;cases e;exact .inl ⟨z,rfl⟩
  ·have e:=(if_neg z).symm.trans e;by_cases z':b=a/\(K.lookup a).isNone=true
   ·have e:=(if_pos z').symm.trans e;cases e;exact .inr ⟨z'.1,by simpa using z'.2,rfl⟩
   ·have e:=(if_neg z').symm.trans e;cases e
 have free:∀b o,s₁.heap.get? b=some o->o.cls≠.none->o.cls≠.type "list"->H b=none:=λb o e h1 h2=>by
  cases z:H b with
  |none=>rfl
  |some u=>
   rcases cases' b u z with⟨e1,_⟩|⟨e1,_⟩
   ·rw[e1,hT]at e;cases e;exact absurd rfl h1
   ·rw[e1,ha]at e;cases e;exact absurd rfl h2
 have freeD:∀b o es ep,s₁.heap.get? b=some o->o.data=.dict es ep->H b=none:=λb o es ep e d=>by
  cases z:H b with
  |none=>rfl
  |some u=>
   rcases cases' b u z with⟨e1,_⟩|⟨e1,_⟩
   ·rw[e1,hT]at e;cases e;cases d
   ·rw[e1,ha]at e;cases e;have d':Data.seq vs.toArray _=Data.dict es ep:=d;cases d'
 have hS:o9 K H a (ns.map V.int):=by
  cases hk:K.lookup a with
  |some o=>
   have e:=KX a o hk;rw[ha]at e;cases e;exact .inr ⟨_,vs.toArray,_,hk,rfl,rfl,rfl,by rw[OW,lenV];exact hl,by simpa using rv⟩
  |none=>
   refine .inl (.inr ⟨{cls:=.type "list",data:=.seq vs.toArray},?_⟩);rw[hH];exact(if_neg aT).trans (if_pos ⟨rfl,by rw[hk];rfl⟩)
 have hok:pA P w H s₁.heap:=λb u e=>by
  rcases cases' b u e with⟨e1,e2⟩|⟨e1,_,e2⟩
  ·subst e1 e2;exact pR.ok (.inl hT)
  ·subst e1 e2;exact⟨ha,by rw[O0];exact hl,vs,_,rv,ha⟩
 have nsK:∀{b:Si}{m:Str->Option Se},s₁.heap.Ns b m->(wy s₁.heap H).Ns b m:=λ{b m} ⟨o,es,ep,e,d,r⟩=>⟨o,es,ep,sY e (freeD b o es ep e d),d,r⟩
 have hKb:K.In (wy s₁.heap H):=λb o e=>sY (KX b o e) (by
  cases z:H b with
  |none=>rfl
  |some u=>
   rcases cases' b u z with⟨e1,_⟩|⟨e1,e2,_⟩
   ·rw[e1,hKT]at e;cases e
   ·rw[e1,e2]at e;cases e)
 have hbm':zP mg (wy s₁.heap H):=by
  obtain⟨bm,ob,b1,b2,b3,b4,b5,b6⟩:=hbm;refine⟨bm,ob,b1,b2,sY b3 (free bm ob b3 ?_ ?_),b4,b5,b6⟩
  ·rw[b4];simp
  ·rw[b4];simp
 have hM:Mod K mg (wy s₁.heap H):=⟨hKb,nsK hns,⟨mb,nsK hb,hbb⟩,let ⟨mc,h1,h2⟩:=hlim;⟨mc,nsK h1,h2⟩⟩
 have e0:Ce P w K mg (wy s₁.heap H) callerA [] s₁ H:=⟨rfl,hM,λb o e=>G5 e,O1 (BW _ _),trivial,λb hb=>absurd (show b∈([]:List Si)from hb) (by simp),hok,.of_eq hg⟩
 refine Ta ((F _ hKb (nsK hns) hbm').run callerA [] s₁ H ⟨[.ref a],[]⟩ [.ref a] [.ref a] _ _ hr e0 (hbind s₁ (.ref a)) (.cons rfl .nil) (hsp H hHT hS)) λr s' h=>?_;cases r with
 |error e=>exact(hCX H e s' h).elim
 |ok fl=>
  cases fl with
  |next=>exact False.elim h
  |brk=>exact False.elim h
  |cont=>exact False.elim h
  |ret u=>
   obtain⟨v,H',os,bare,unn,hok',r',q'⟩:=h;obtain⟨ev,sm⟩:v=.bl true/\bT H H':=q';subst ev;obtain rfl:u=Value.bool true:=r';have tb:=(hok' T _ (sm _ _ hHT)).1;obtain⟨ps,hps⟩:∃ps,s'.heap.get? T=some (tabObj ps):=by
    rcases tb with e|⟨_,_,e,_⟩
    ·exact⟨_,e⟩
    ·exact⟨_,e⟩
   have keep:∀b o,b≠T->s₁.heap.get? b=some o->s'.heap.get? b=some o:=λb o hb e=>by
    cases z:H b with
    |none=>exact unn.keep b o e z (by intro z;exact absurd (show b∈([]:List Si)from z) (by simp)) (by simp)
    |some u=>
     rcases cases' b u z with⟨e1,_⟩|⟨e1,_,e2⟩
     ·exact absurd e1 hb
     ·subst e2;have z2:=sm _ _ z;obtain⟨e3,_⟩:=hok' b _ z2;rw[e1,ha]at e;cases e;exact e3
   refine⟨rfl,⟨λb o e=>?_,λb o e=>?_⟩,os,bare⟩
   ·by_cases hb:b=T
    ·subst hb;rw[hT]at e;cases e;exact .inr (.inl ⟨((codeHd_of_K KX hC).tab hT).isCodeTable,rfl,#[],ps,rfl,by rw[Array.empty_append];exact hps⟩)
    ·exact .inl (keep b o hb e)
   ·by_cases hb:b=T
    ·subst hb;exact⟨_,hps⟩
    ·exact⟨o,keep b o hb e⟩
def Ey{l:RC}{n k:Nat}{q:Sg}{loose:List Str}{XP:(Str->Option Se)->Sl->Prop}{YP:Sf->Sl->Prop}{d:DefRec}{K:Params->Q7}{CX:Sf->zF}{sp:Sf->Sp}{x qn:Str}{T:Si}{lpos:Pos}
  (hn:l.most=some n) (hn2:n<=Sn) (hdf:d.params.defaults=[]) (hr:gP k callerA)
  (hY:∀(w:Sf)(h:Sl),YP w h->(K w.params).In h/\h.get? T=some (tabObj #[]))
  (F:∀ (w:Sf) (mg:Str->Option Se) (fa:Si) (h:Sl),(K w.params).In h->h.Ns Sr mg->mg d.name=some (.ref fa) ->
   (∃c,codeHdIn (K w.params) c T=true)/\(K w.params).lookup T=none/\∃fd:S7,(∀(s:Sw)(u:Se),S8 s fd ⟨[u],[]⟩ [(x,u)])/\
    ∀base:Sl,(K w.params).In base->base.Ns Sr mg->zP mg base->jV l.prog w (K w.params) mg base (CX w) k fa fd [x] (sp w))
  (hsp:∀(w:Sf)(H:Hp)(a:Si)(ns:List Int),ns.length<=n->H T=some (.ext (pR T lpos qn))->o9 (K w.params) H a (ns.map V.int)->sp w [.ref a] H (λv H'=>v=.bl true/\bT H H') λ_ _ _=>False)
  (hCX:∀(w:Sf)(H:Hp)(s:Sw)(e:Se)(s':Sw),CX w [] H s (λ_ _ _=>False) e s'->False):
  PySem.W.WalkO q loose XP YP l.row.toRowW d [] (λf vs=>PySem.call f vs):=by
 refine Att.Hm hn hdf λw s₀ s₁ mg mb fa o pm cd doc a vs ns G Y ho hd hcd hmg hobj hints hlen hg=>?_;obtain⟨KX,hT⟩:=hY w _ Y;obtain⟨⟨c,hC⟩,hKT,fd,hb,hF⟩:=F w mg fa _ KX G.T.g hmg;exact Gh KX G.T.g G.T.b G.T.builtins G.T.nolimit hg G.T.bmain hT hC hKT hobj hints (OG hlen hn2) hr hF hb (λH hO hS=>hsp w H a ns hlen hO hS) λH e s'=>hCX w H s₁ e s'
open PySem PySem.Spec PySem.Calls L2
open PySem.SeqAt (EqAt list_indexAt)
variable[bh]
section
variable{X:Cx}{p pos:Pos}{e:Sz}
end
end TG
namespace TG
open PySem PySem.Spec L2
variable[bh]
end TG
namespace TG
open PySem PySem.Spec PySem.Calls L2
open PySem.SeqAt (EqAt list_countAt)
variable[bh]
def zO:=Jy (λ_ j=>decide (0<=j)) λi j=>i/2^j.toNat
def zL{K:Q7}:dE K (rI (λ_ j=>0<=j) λi j=>.int (i/2^j.toNat)) zO:=kW λ_ _ h=>of_decide_eq_true h
def tX:=Ha λi j=>.int (Builtin.bitAnd i j)
def zZ{K:Q7}:dE K (C1 λi j=>.int (Builtin.bitAnd i j)) tX:=tI
def rA:List D->List D->Option (List (Key×D))
 |[],[]=>some []
 |k::ks,d::ds=>(keyOf k).bind λk=>(rA ks ds).map ((k,d)::·)
 |_,_=>none
abbrev je(al:List (Key×D)):List D:=al.map λp=>bQ p.1
abbrev y8(al:List (Key×D)):D:=.dct (je al) (al.map (·.2))
def lP(k:Key):keyOf (bQ k)=some k:=by cases k<;>rfl
def uk{a b:Key}(h:bQ a=bQ b):a=b:=by
 have e:=congrArg keyOf h;rw[lP,lP]at e;exact Option.some.inj e
def yE:∀{ks ds:List D}{al:List (Key×D)},rA ks ds=some al->ks=je al/\ds=al.map (·.2)
 |[],[],_,h=>by cases h;exact⟨rfl,rfl⟩
 |k::ks,d::ds,al,h=>by
  unfold rA at h;cases e1:keyOf k with
  |none=>rw[e1]at h;cases h
  |some k'=>
   rw[e1]at h;cases e2:rA ks ds with
   |none=>rw[e2]at h;cases h
   |some al'=>
    rw[e2]at h;cases h;obtain⟨h1,h2⟩:=yE e2;rw[tq e1,h1,h2];exact⟨rfl,rfl⟩
 |[],_::_,_,h=>by cases h
 |_::_,[],_,h=>by cases h
def vI:∀al:List (Key×D),rA (je al) (al.map (·.2))=some al
 |[]=>rfl
 |p::r=>by
  show(keyOf (bQ p.1)).bind _=_;rw[lP];show(rA (je r) (r.map (·.2))).map ((p.1,p.2)::·)=_;rw[vI r];rfl
def vZ:∀{al:List (Key×D)}{ks:List Key},je al=ks.map bQ->al.map (·.1)=ks
 |[],[],_=>rfl
 |p::r,k::ks,h=>by
  have h:bQ p.1::je r=bQ k::ks.map bQ:=h;injection h with h1 h2;rw[OZ,uk h1,vZ h2]
 |[],_::_,h=>by cases h
 |_::_,[],h=>by cases h
def Nx{K:Q7}{H:Hp}{O:List Si}{a:Si}{al:List (Key×D)}(h:jg K H O a (y8 al)):
  (∃kvs:List (Key×V),H a=some (.dK kvs)/\kvs.map (·.1)=al.map (·.1)/\bx K (hid H O) (al.map (·.2)) (kvs.map (·.2)))\/(H a=some (.dT [])/\al=[]):=by
 obtain⟨o,vs,h1,h2,h3⟩:=h;rcases h3 with⟨kvs,e,e1,e2⟩|⟨kvs,e,e1,e2⟩
 ·subst e;refine .inl ⟨kvs,h1,?_,by rw[<-e2];exact h2⟩;exact(vZ (ks:=kvs.map (·.1)) (by rw[QE];exact e1)).symm
 ·subst e;cases kvs with
  |nil=>
   refine .inr ⟨h1,?_⟩
   simpa using e1
  |cons p r=>
   cases al with
   |nil=>cases e1
   |cons q r'=>
    have e1:bQ q.1::je r'=D.tup (p.1.map bQ)::r.map (λp=>D.tup (p.1.map bQ)):=e1;injection e1 with e1 _;rcases q with⟨k,v⟩
    cases k<;>cases e1
section
variable{κ:Type}[DecidableEq κ]
def rW(al:List (κ×D))(k:κ)(v:D):List (κ×D):=if(al.any λp=>decide (p.1=k))=true then al.map (λp=>if p.1=k then(p.1,v)else p)else al++[(k,v)]
def CF{kvs:List (κ×V)}{al:List (κ×D)}(e:kvs.map (·.1)=al.map (·.1))(k:κ)(w:V)(d:D):(putK kvs k w).map (·.1)=(rW al k d).map (·.1):=by
 have e2:(kvs.any λp=>decide (p.1=k))=(al.any λp=>decide (p.1=k)):=by
  have:=congrArg (λl=>l.any λq=>decide (q=k)) e
  simpa [QF,Function.comp_def]using this
 unfold putK rW;rw[e2];split
 ·have e3:∀(l:List (κ×V)),(l.map λkv=>if kv.1=k then(kv.1,w)else kv).map (·.1)=l.map (·.1):=λl=>by
   rw[QE];refine P6 λp _=>?_;show(if p.1=k then(p.1,w)else p).1=p.1;split<;>rfl
  have e4:∀(l:List (κ×D)),(l.map λkv=>if kv.1=k then(kv.1,d)else kv).map (·.1)=l.map (·.1):=λl=>by
   rw[QE];refine P6 λp _=>?_;show(if p.1=k then(p.1,d)else p).1=p.1;split<;>rfl
  rw[e3,e4,e]
 ·rw[P7,P7,e];rfl
def vW{K:Q7}{H:Hp}{k:κ}{w:V}{d:D}(hw:dD K H d w):∀{kvs:List (κ×V)}{al:List (κ×D)},kvs.map (·.1)=al.map (·.1)->bx K H (al.map (·.2)) (kvs.map (·.2))->
  bx K H ((al.map λp=>if p.1=k then(p.1,d)else p).map (·.2)) ((kvs.map λp=>if p.1=k then(p.1,w)else p).map (·.2))
 |[],[],_,h=>h
 |p::r,q::r',e,h=>by
  rw[OZ,OZ]at e;injection e with e1 e2;rw[OZ,OZ,bP]at h;obtain⟨v,ws,h0,h1,h2⟩:=h;injection h0 with h0 h0';subst h0 h0';have ih:=vW (k:=k) hw e2 h2;rw[OZ,OZ,OZ,OZ,bP];refine⟨_,_,rfl,?_,ih⟩;rw[e1];split
  ·exact hw
  ·exact h1
 |[],_::_,e,_=>by cases e
 |_::_,[],e,_=>by cases e
def Dm{K:Q7}{H:Hp}{k:κ}{w:V}{d:D}(hw:dD K H d w){kvs:List (κ×V)}{al:List (κ×D)}(e:kvs.map (·.1)=al.map (·.1))(h:bx K H (al.map (·.2)) (kvs.map (·.2))):
  bx K H ((rW al k d).map (·.2)) ((putK kvs k w).map (·.2)):=by
 have e2:(kvs.any λp=>decide (p.1=k))=(al.any λp=>decide (p.1=k)):=by
  have:=congrArg (λl=>l.any λq=>decide (q=k)) e
  simpa [QF,Function.comp_def]using this
 unfold putK rW;rw[e2];split
 ·exact vW hw e h
 ·rw[P7,P7];exact h.append (bP.mpr ⟨w,[],rfl,hw,dA.mpr rfl⟩)
end
def vG(ks ds:List D)(k v:D):Option (List (Key×D)):=(rA ks ds).bind λal=>(keyOf k).bind λk=>if small al.length then some (rW al k v)else none
def oK(i:Nat)(fk fv:FX):cK:=λk ρ=>match ρ[i]? with
 |some (some (.own (.dct ks ds)))=>su ((fv ρ).bind λv=>(fk ρ).bind λq=>rO (vG ks ds q v)) k ρ λal=>k.nx (ρ.set i (some (.own (y8 al))))
 |_=>un
def Al{ks ds:List D}{k v:D}{al':List (Key×D)}(h:vG ks ds k v=some al'):∃al q,ks=je al/\ds=al.map (·.2)/\k=bQ q/\small al.length=true/\al'=rW al q v:=by
 unfold vG at h;cases e1:rA ks ds with
 |none=>rw[e1]at h;cases h
 |some al=>
  rw[e1]at h;cases e2:keyOf k with
  |none=>rw[e2]at h;cases h
  |some q=>
   rw[e2]at h;obtain⟨h3,h4⟩:=cq (show(if small al.length then some (rW al q v)else none)=some al' from h);obtain⟨h1,h2⟩:=yE e1;exact⟨al,q,h1,h2,tq e2,h3,h4.symm⟩
def Ga{kvs:List (Key×V)}{al:List (Key×D)}(e:kvs.map (·.1)=al.map (·.1)):je al=kvs.map λp=>bQ p.1:=by
 have:=congrArg (List.map bQ) e
 rw[QE,QE]at this;exact this.symm
def Jr(td ty tv:TE):TS:=λD σ H=>tv σ H λv H1=>td σ H1 λx H2=>ty σ H2 λy H3=>∃a k kvs,x=.ref a/\y=kV k/\(H3 a=some (.dK kvs)\/(H3 a=some (.dT [])/\kvs=[]))/\kvs.length<Sn/\D.nx σ (upd H3 a (.dK (putK kvs k v)))
section
variable{X:Cx}{o idx value:Sz}{pos pos':Pos}{td ty tv:TE}
def C5(hu:X.A.units+1<S6)(ho:PE X o td)(hi:PE X idx ty)(hv:PE X value tv)(hs:swapsWith value (some (.Subscript o idx pos')) pos.line X.env=pure false):PS X (.Assign [.Subscript o idx pos'] value pos) (Jr td ty tv):=by
 intro pins s σ H D I h;refine wpAny_Assign_Subscript (eZ (hv pins s σ H _ I h) λr s1 ⟨v,H1,I1,rv,q1⟩=>eZ (ho pins s1 σ H1 _ I1 q1) λu s2 ⟨x,H2,I2,rx,q2⟩=>eZ (hi pins s2 σ H2 _ I2 q2) λiv s3 ⟨y,H3,I3,ry,a,k,kvs,ex,ey,ha,hl,q3⟩=>?_) hs;subst ex ey;obtain rfl:u=Value.ref a:=rx;rcases ha with ha|⟨ha,rfl⟩
 ·exact oq hu I3 (HZ.k ha hl) ry rv λs4 I4=>⟨σ,_,I4,q3⟩
 ·refine oq hu (K4 I3 ha) (HZ.k bI hl) ry rv λs4 I4=>⟨σ,_,I4,?_⟩
  rw[yt];exact q3
end
def Lq{X:Cx}{i:Nat}{x:Str}{idx value:Sz}{fk fv:FX}{npos tpos pos:Pos}(hu:X.A.units+64<S6)(hx:PE X (.Name x npos) (uW i))(hi:FE X idx fk)(hv:FE X value fv)
  (hs:swapsWith value (some (.Subscript (.Name x npos) idx tpos)) pos.line X.env=pure false:=by rfl):
  FS X (.Assign [.Subscript (.Name x npos) idx tpos] value pos) (oK i fk fv):=λHb Ob pins s σ H E I ⟨O,ρ,k,rr,S,hF,hk⟩=>by
 unfold oK at hF;split at hF
 ·rename_i ks ds hxs;obtain⟨a,ha,haO,hat⟩:=S.env.own i _ hxs;have hP:=jJ.on hF hk S (Q:=λal=>k.nx (ρ.set i (some (.own (y8 al))))=rr) λp e=>e;refine C5 ‹0› hx hi hv hs pins s σ H E I ⟨O,ρ,S.env,(jJ.bind hP).imp λy hP v H1 s1 d1=>?_⟩;have S1:=S.same s1;refine⟨.ref a,ha,O,ρ,S1.env,((jJ.bind hP).mono s1).imp λj hP w H2 s2 d2=>?_⟩;have S2:=S1.same s2;obtain⟨al',hg,e⟩:=jJ.rO hP;obtain⟨al,q,f1,f2,f3,f4,f5⟩:=Al hg;subst f1 f2 f3 f5;have s12:=s1.trans s2;have hat2:jg X.K H2 O a (y8 al):=hat.mono (let ⟨_,z⟩:=hat.some;sq s12 z) (cH s12);have dv:dD X.K (hid H2 O) y v:=d1.mono (cH s2);have fin:∀kvs:List (Key×V),kvs.map (·.1)=al.map (·.1)->bx X.K (hid H2 O) (al.map (·.2)) (kvs.map (·.2))->jg X.K (upd H2 a (.dK (putK kvs q v))) O a (y8 (rW al q y)):=λkvs k2 k3=>
   ⟨_,_,bI,(Dm dv k2 k3).mono (nN haO),.inl ⟨putK kvs q v,rfl,Ga (CF k2 q v y),rfl⟩⟩
  rcases Nx hat2 with⟨kvs,k1,k2,k3⟩|⟨k1,rfl⟩
  ·have hl:kvs.length=al.length:=(by have:=congrArg List.length k2;simpa using this);exact⟨a,q,kvs,rfl,uq d2,.inl k1,by rw[hl];exact Qc (of_decide_eq_true f4) (by decide),hk.nx O _ σ _ (S2.setO hxs ha trivial (fin kvs k2 k3)) e⟩
  ·exact⟨a,q,[],rfl,uq d2,.inr ⟨k1,rfl⟩,by decide,hk.nx O _ σ _ (S2.setO hxs ha trivial (fin [] rfl (dA.mpr rfl))) e⟩
 ·exact absurd hF.symm hk.ne
section
variable{X:Cx}
def JS{pins:List (Si×Obj)}{σ:St}{H:Hp}{s:Sw}{O:List Si}{ks ds:List D}{v:V}{qs:List Key}(I:Inv X pins σ H s)(h:dD X.K (hid H O) (.dct ks ds) v)(hk:keysOf ks=some qs):
  ∃a vs,v=.ref a/\qs.length<=Sn/\(a==sysModules)=false/\s.heap.DictOf (dr X.prog X.w) a vs/\vs.map (·.1)=qs:=by
 obtain⟨a,vs,e,_,h2⟩:=LX.mp h;have ek:=nT hk;rcases h2 with⟨kvs,h3,h4,_⟩|⟨kvs,h3,h4,_⟩|⟨kvs,o,h3,h4,_⟩
 rotate_left 2
 ·rw[h4]at hk;cases hk
 ·obtain⟨z,hd,us,rel,dd⟩:=Hs I.hok ((aU H O) _ _ h3);have e1:kvs.map (·.1)=qs:=by
   have:(kvs.map (·.1)).map bQ=qs.map bQ:=(by rw[QE,<-ek,h4];rfl);have e2:=congrArg keysOf this;rw[cQ,cQ]at e2;exact Option.some.inj e2
  refine⟨a,us,e,?_,hd,dd,?_⟩
  ·have:=congrArg List.length e1
   rw[O0]at this;omega
  ·rw[<-rel.keys,e1]
 ·cases kvs with
  |nil=>
   rw[h4]at hk;cases hk;obtain⟨z,hd,us,rel,dd⟩:=(show dq X.prog X.w H s.heap a (.dK [])from yL (I.hok a _ ((aU H O) _ _ h3)))
   refine⟨a,us,e,O3 _,hd,dd,?_⟩;rw[<-rel.keys];rfl
  |cons p r=>
   rw[h4]at hk;cases hk
def we:List D->Option D
 |[.dct ks _]=>(keysOf ks).bind λqs=>some (.int qs.length)
 |_=>none
def Cp:eR X (.builtin "len") (yP X.K we):=by
 intro pins s σ H xs us Q I r ⟨O,ds,d,hO,hd,hg,q⟩;unfold we at hg;split at hg
 ·rename_i ks vs0;cases hk:keysOf ks with
  |none=>rw[hk]at hg;cases hg
  |some qs=>
   rw[hk]at hg;cases hg;obtain⟨v,ev,h1⟩:=hd.one;obtain⟨a,vs,e,z,hs,dd,e1⟩:=JS I h1 hk;subst ev e;obtain⟨u,rfl,ru⟩:=vals1 r;cases ru;have hl:vs.length=qs.length:=(by have:=congrArg List.length e1;simpa using this);refine call_len_dict hs dd (by rw[SZ]at z;omega) ?_;rw[hl];exact⟨.int qs.length,H,I.tok _,⟨_,rfl⟩,q _ H (bT.refl H) (gG.mpr rfl)⟩
 ·cases hg
def Cy{k:Key}{v:Se}(h:rq k v=true):RelV (kV k) v:=by
 rcases dH h with⟨i,t,rfl,rfl⟩|⟨x,t,rfl,rfl⟩
 ·exact⟨_,rfl⟩
 ·exact⟨_,rfl⟩
def vt{P:Sg}{w:Sf}:∀{vs:List (Key×Se)}{its:List Se},its.length=vs.length->(∀(j:Nat)(v:Se),its[j]?=some v->∃(k:Key)(x:Se),vs[j]?=some (k,x)/\(dr P w).is k v=true)->Vals (vs.map λp=>kV p.1) its
 |[],[],_,_=>.nil
 |p::r,u::us,hl,h=>by
  obtain⟨k,x,e,hk⟩:=h 0 u rfl;cases e;exact .cons (Cy (by rw[Ae]at hk;exact hk)) (vt (by simpa using hl) λj v e=>h (j+1) v (by simpa using e))
 |[],_::_,hl,_=>by cases hl
 |_::_,[],hl,_=>by cases hl
def v6{K:Q7}{H:Hp}:∀qs:List Key,bx K H (qs.map bQ) (qs.map kV)
 |[]=>dA.mpr rfl
 |k::r=>bP.mpr ⟨kV k,_,rfl,by cases k with
  |inl i=>exact gG.mpr rfl
  |inr x=>exact gJ.mpr rfl,v6 r⟩
def mR:List D->Option D
 |[.dct ks _]=>(keysOf ks).bind λ_=>some (.lst ks)
 |_=>none
def tx(hc:X.calm=true):eR X (.type "list") (yP X.K mR):=by
 intro pins s σ H xs us Q I r ⟨O,ds,d,hO,hd,hg,q⟩;unfold mR at hg;split at hg
 ·rename_i ks vs0;cases hk:keysOf ks with
  |none=>rw[hk]at hg;cases hg
  |some qs=>
   rw[hk]at hg;cases hg;obtain⟨v,ev,h1⟩:=hd.one;obtain⟨a,vs,e,z,hs,dd,e1⟩:=JS I h1 hk;subst ev e;obtain⟨u,rfl,ru⟩:=vals1 r;cases ru;have hl:vs.length=qs.length:=(by have:=congrArg List.length e1;simpa using this);obtain⟨ep,da⟩:=dd.dictAt;refine RD (PySem.W.kdl_dict hs) (I.ok.hd hc) da ‹0› λh' tk acc' c' kp e2 it=>?_;have rv:Vals (qs.map kV) acc'.toList:=by
    have:=vt (P:=X.prog) (w:=X.w) (vs:=vs) (its:=acc'.toList) (by rw[Array.length_toList];exact it.1) λj v e=>it.2 j v (by rw[<-Array.getElem?_toList];exact e)
    rw[<-e1,QE];exact this
   refine⟨.ref s.heap.objs.size,_,I.laid (t':=tk) kp (OT _) (show dq X.prog X.w _ h' _ (.lst (qs.map kV))from⟨by rw[O0];exact z,acc'.toList,c',rv,by simpa using e2⟩),rfl,?_⟩;have hf:=I.hok.fresh (OT s.heap.objs.size);refine q _ _ (cI hf _) ?_;rw[nT hk];exact dY hO hf (v6 qs)
 ·cases hg
end
end TG
namespace TG
open PySem PySem.Spec L2
variable[bh]
end TG
namespace TG
open PySem PySem.Spec PySem.Calls L2
variable[bh]
def CL:typeLookup (.type "list") "keys"=pure none:=by rw[typeLookup_type,builtinLookup_eq_fast];kernel_rfl
def Gw{prog:Sg}{w:Sf}{A:Sv}{E:Se->Sw->Prop}{s:Sw}{a:Si}{o:Obj}{xs:Array Se}{k:Nat}{u:Tok}{Q:Se->Sw->Prop}
  (hx:s.heap.get? a=some o) (hc:o.cls=.type "list") (hdat:o.data=.seq xs k) (hd:o.dict=none) (hA:A.handled=none)
  (h:∀h' tk e,Heap.NewExcOf s.heap h' e "AttributeError"->E (.ref e) {s with heap:=h',toks:=tk}):
  Sy (model prog w) A (getAttrBy (.ref a) (.str "keys" u) false) Q E s:=by
 obtain⟨c,dct,dat,sl⟩:=o;simp only at hc hdat hd;subst hc hdat hd;obtain⟨hp,g,d,tk,os⟩:=s;have hT:∀tk',(⟨hp,g,d,tk',os⟩:Sw).TypeIs (.ref a) "list":=λ_=>⟨_,hx,rfl⟩
 have f1:=sub_AttributeError;have f3:=F.slot_list_getattribute.lookup;have f4:=F.slot_list_getattribute.bind (.ref a);have f5:=am_list_getattr_none;unfold getAttrBy
 repeat (any_goals (first|assumption|exact hT _|((with_reducible show Sy _ _ (call (Value.builtin "list.__getattribute__") _ _) _ _ _);refine call_meets F.slot_list_getattribute (hT _) am_entry_list_getattribute (F.args_list_getattribute_2 _ _) (meets_getattribute_miss_list a xs k sl "keys" _ CL (by decide +kernel) (by decide +kernel)) ⟨hx,hA,λh' tk' e hx'=>?_⟩)|wp_step))
 obtain⟨t',u',he⟩:=hx'.there;show Sy _ _ (getattributeRaised _ _ _ _ _ _ _) _ _ _;unfold getattributeRaised
 repeat (any_goals (first|assumption|wp_step))
 exact h _ _ _ hx'.of
def FC{prog:Sg}{w:Sf}{A:Sv}{E:Se->Sw->Prop}{s:Sw}{a:Si}{o:Obj}{xs:Array Se}{k:Nat}{Q:Option Se->Sw->Prop}
  (hx:s.heap.get? a=some o) (hc:o.cls=.type "list") (hdat:o.data=.seq xs k) (hd:o.dict=none) (hA:A.handled=none)
  (h:∀h' tk,(∀b o,s.heap.get? b=some o->h'.get? b=some o)->Q none {s with heap:=h',toks:=tk}):
  Sy (model prog w) A (getAttr? (.ref a) "keys") Q E s:=by
 obtain⟨hp,g,d,tk,os⟩:=s;have f1:=sub_AttributeError;unfold getAttr? getAttrBy?;refine SK (wpAny_mkText ?_);refine SK (TV (Gw (s:=⟨hp,g,d,tk+1,os⟩) hx hc hdat hd hA λh' tk' e ne=>?_));obtain⟨ob,vs,e1,e2,_⟩:=ne.there;refine SK (TY (s:=⟨h',g,d,tk',os⟩) ⟨ob,e1,e2⟩ f1 ?_);exact SJ (h h' tk' ne.keeps)
abbrev Keeps(h0 h:Sl):Prop:=∀b o,h0.get? b=some o->h.get? b=some o
section
variable{prog:Sg}{w:Sf}{A:Sv}{E:Se->Sw->Prop}{K:Type}[DecidableEq K]{knd:HeapKind prog w K}{d:Si}{h0:Sl}
def DI(knd:HeapKind prog w K)(h0:Sl)(d:Si)(h:Sl)(xs:List (K×Si×Se)):Prop:=
 (∃o es ep,h.get? d=some o/\o.ExactDict/\o.data=.dict es ep/\es.toList=xs.map (entryOfKey knd)/\(xs.map (·.1)).Nodup)/\∀x∈xs,∀h,Keeps h0 h->knd.is h x.1 x.2.1
def DI.dict{h:Sl}{xs:List (K×Si×Se)}(x:DI knd h0 d h xs)(k:Keeps h0 h):h.DictOfH knd d xs:=by
 obtain⟨⟨o,es,ep,h1,h2,h3,h4,h5⟩,h6⟩:=x;exact⟨o,es,ep,h1,h2,h3,h4,λy hy=>h6 y hy h k,h5⟩
def DI.stay{h h':Sl}{xs:List (K×Si×Se)}(x:DI knd h0 d h xs)(k:∀o,h.get? d=some o->h'.get? d=some o):DI knd h0 d h' xs:=by
 obtain⟨⟨o,es,ep,h1,r⟩,h6⟩:=x;exact⟨⟨o,es,ep,k o h1,r⟩,h6⟩
def mem_storedH{xs:List (K×Si×Se)}{k:K}{a:Si}{v:Se}{x:K×Si×Se}(h:x∈storedH xs k a v):(∃y∈xs,y.1=x.1/\y.2.1=x.2.1)\/(x.1=k/\x.2.1=a):=by
 unfold storedH at h;split at h
 ·obtain⟨y,hy,rfl⟩:=List.mem_map.mp h;refine .inl ⟨y,hy,?_⟩;unfold putAt;split<;>exact⟨rfl,rfl⟩
 ·rcases List.mem_append.mp h with z|z
  ·exact .inl ⟨x,z,rfl,rfl⟩
  ·rw[QK]at z;subst z;exact .inr ⟨rfl,rfl⟩
def DI.put{h h':Sl}{xs:List (K×Si×Se)}{k:K}{a:Si}{v:Se}(x:DI knd h0 d h xs)(hk:∀h,Keeps h0 h->knd.is h k a)(dd:h'.DictOfH knd d (storedH xs k a v)):DI knd h0 d h' (storedH xs k a v):=by
 obtain⟨o,es,ep,h1,h2,h3,h4,_,h5⟩:=dd;refine⟨⟨o,es,ep,h1,h2,h3,h4,h5⟩,λy hy g kg=>?_⟩;rcases mem_storedH hy with⟨z,hz,e1,e2⟩|⟨e1,e2⟩
 ·rw[<-e1,<-e2];exact x.2 z hz g kg
 ·rw[e1,e2];exact hk g kg
def yc(xs:List (K×Si×Se))(k:K)(a:Si)(v:Se):(storedH xs k a v).length<=xs.length+1:=by
 unfold storedH;split
 ·rw[O0];omega
 ·simp
def xX:entryFor table "dict.update.loop"=some Builtin.«dict.update.loop»:=entryFor_of_tree (by kernel_rfl)
def pV:plainId "dict.update.loop"=true:=by decide +kernel
def CK{R:Result->Sw->Prop}{I:Si}{fp wr:List Si}{P:Nat->Se->Prop}{St:Nat->Sl->Prop}{L:List (K×Si×Se)}(W:Walks prog w A.in1 I fp wr L.length P St)(hwr:∀b∈wr,h0.get? b=none)(hdn:h0.get? d=none)(hdf:d∉fp)
  (hn:L.length<=Sn) (hu:knd.room A.in1) (hP:∀i v,P i v->∃x t,L[i]?=some x/\v=.ref t/\∀h,Keeps h0 h->h.IsTuple t #[.ref x.2.1,x.2.2]) (hK:∀x∈L,∀h,Keeps h0 h->knd.is h x.1 x.2.1) (res:Se):
  ∀(m i:Nat)(s:Sw)(xs:List (K×Si×Se))(j:Int)(u:Tok),i+m=L.length->St i s.heap->Keeps h0 s.heap->DI knd h0 d s.heap xs->xs.length<=i->
  (∀h' tk,Keeps h0 h'->DI knd h0 d h' ((L.drop i).foldl (λxs x=>storedH xs x.1 x.2.1 x.2.2) xs)->R (.ok (.ret res)) {s with heap:=h',toks:=tk})->
  S0 (model prog w) A (.builtin "dict.update.loop" ⟨[.ref d,.ref I,.int j u,res],[]⟩) R s:=by
 have hdw:d∉wr:=λh=>hdf (W.sub _ h);intro m
 induction m with
 |zero=>
  intro i s xs j u hi st kp di hl hR;have hin:i=L.length:=by omega
  subst hin;refine codeAny_builtin xX ?_;rw[Around.under_plainId pV _];show Sy _ A.in1 (pyNext (.ref I) >>= _) _ _ s;refine SK (W.done s _ _ st λh' tk hk=>?_);refine SK (SJ (SJ ?_))
  have:=hR h' tk (λb o q=>hk b o (λz=>by have:=hwr b z;rw[q]at this;cases this) (kp b o q)) (by
   rw[Qe,List.foldl_nil];exact di.stay λo q=>hk d o hdw q)
  exact this
 |succ m ih=>
  intro i s xs j u hi st kp di hl hR;refine codeAny_builtin xX ?_;rw[Around.under_plainId pV _];show Sy _ A.in1 (pyNext (.ref I) >>= _) _ _ s;refine SK (W.item i s _ _ ‹0› st λv h' tk hv st' hk=>?_);obtain⟨x,t,hx,rfl,ht⟩:=hP i v hv;have kp':Keeps h0 h':=λb o q=>hk b o (λz=>by have:=hwr b z;rw[q]at this;cases this) (kp b o q);obtain⟨o,ho,hc,n,hd⟩:=ht h' kp';have xm:x∈L:=Pj hx;refine SK (Tl (SK (wpAny_tryCatch ?_)));unfold Builtin.Dict.pairItems;refine SK (Tp (T:="tuple") ⟨o,ho,hc⟩ ?_);rw[if_pos (by decide)];refine SK (TF ho hd (SJ ?_));show Sy _ _ (holding [.ref x.2.1,x.2.2] (dictSet d (.ref x.2.1) x.2.2)) _ _ _;have di':DI knd h0 d h' xs:=di.stay λo q=>hk d o hdw q;refine Tl (wpAny_dictSet_heap (s:={s with heap:=h',toks:=tk}) (hsz:=by omega) hu (hK x xm h' kp') (di'.dict kp') λh2 dd sb=>?_);have kp2:Keeps h0 h2:=λb o q=>(sb.2 b (λz=>by rw[z,hdn]at q;cases q)).trans (kp' b o q);refine SJ ⟨plainId_quiet pV _,?_⟩;refine ih (i+1) _ (storedH xs x.1 x.2.1 x.2.2) (j+1) 0 ‹0› (W.frame _ _ _ st' λb hb o q=>(sb.2 b (λz=>hdf (by rw[<-z];exact hb))).trans q) kp2 (di'.put (hK x xm) dd) (by have:=yc xs x.1 x.2.1 x.2.2;omega) λh3 tk3 kp3 di3=>?_;refine hR h3 tk3 kp3 ?_;have e:L.drop i=x::L.drop (i+1):=by
   have hil:i<L.length:=(by omega);rw[Qb hil];rw[PX hil]at hx;rw[Option.some.inj hx]
  rw[e,Qv];exact di3
def sU{s:Sw}{Q:Se->Sw->Prop}{l:Si}{o:Obj}{items:Array Se}{n:Nat}{L:List (K×Si×Se)}(ho:s.heap.get? l=some o)(hc:o.cls=.type "list")(hd:o.data=.seq items n)(hdd:o.dict=none)(hh:A.handled=none)(hu:knd.room A.in1.in1)
  (hl:items.size=L.length) (hn:L.length<=Sn) (hP:∀(i:Nat) v,items[i]?=some v->∃x t,L[i]?=some x/\v=.ref t/\s.heap.IsTuple t #[.ref x.2.1,x.2.2]) (hK:∀x∈L,∀h,Keeps s.heap h->knd.is h x.1 x.2.1)
  (hQ:∀h' tk,Keeps s.heap h'->DI knd s.heap s.heap.objs.size h' (L.foldl (λxs x=>storedH xs x.1 x.2.1 x.2.2) [])->Q (.ref s.heap.objs.size) {s with heap:=h',toks:=tk}):
  Sy (model prog w) A (call (.type "dict") [.ref l]) Q E s:=by
 refine callType_codes (Q₁:=λobj s₁=>obj=.ref s.heap.objs.size/\s₁={s with heap:=s.heap.push {cls:=.type "dict",data:=.dict #[]}}) F.kt_called_dict (F.kt_typeCall_dict_1 _) F.entry_dict_init (kt_code_dict_new _ ⟨rfl,rfl⟩) ?_;rintro obj s₁ ⟨rfl,rfl⟩;have hnew:(s.heap.push {cls:=.type "dict",data:=.dict #[]}).DictOfH knd s.heap.objs.size []:=Heap.DictOfH.new s.heap;have hlt:=RH ho;have hl1:(s.heap.push {cls:=.type "dict",data:=.dict #[]}).get? l=some o:=RL _ ho;refine⟨hnew.typeIs,F.args_dict_init_2 _ _,?_⟩;unfold Builtin.«dict.__init__»;refine SK ?_;unfold Builtin.Dict.selfAndRest;refine SK (wpAny_notOrdered_dict hnew.typeIs ?_);show Sy _ _ (pure (s.heap.objs.size,[Value.ref l])) _ _ _;refine SJ ?_;show Sy _ _ (Builtin.Dict.updateFrom "dict.__init__" s.heap.objs.size (.ref l) [] .none) _ _ _;unfold Builtin.Dict.updateFrom;refine SK (Tp (T:="list") ⟨o,hl1,hc⟩ ?_);rw[if_pos (by decide)];refine SK (FC hl1 hc hd hdd hh λh1 tk1 k1=>?_);rw[if_pos (show(none:Option Se).isNone=true from rfl)];refine SK (Tz ?_);have hd1:h1.get? s.heap.objs.size=some {cls:=.type "dict",data:=.dict #[]}:=k1 _ _ (RM _ rfl);have hl2:h1.IsList l items:=⟨o,k1 _ _ hl1,hc,n,hd⟩
 have dlt:=RH hd1;refine SK (SL (s:={s with heap:=h1,toks:=tk1}) hl2 ?_);refine SJ ⟨plainId_quiet pV _,?_⟩;have W:=Walks.list (prog:=prog) (w:=w) (A:=A.in1.in1) hh h1.objs.size l (OD (Pz hlt dlt)) items;rw[hl]at W;refine CK (A:=A.in1) (knd:=knd) (h0:=s.heap) (d:=s.heap.objs.size) W (λb hb=>?_) (RJ (OT _)) (λz=>?_) hn hu (λi v hv=>?_) hK .none L.length 0 _ [] 0 0 ‹0› ?_ (λb o q=>?_) ⟨⟨_,#[],0,RL _ hd1,⟨rfl,rfl,rfl⟩,rfl,rfl,PB⟩,λx hx=>by simp at hx⟩ (OT _) λh' tk kp di=>?_
 ·rw[QK]at hb;subst hb;exact RJ (OH dlt)
 ·simp only[Qg,Qh,or_false]at z;rcases z with z|z
  ·exact absurd z (OD dlt)
  ·exact absurd z.symm (OD hlt)
 ·obtain⟨x,t,e1,e2,e3⟩:=hP i v hv;obtain⟨ob,q1,q2⟩:=e3;exact⟨x,t,e1,e2,λh kh=>⟨ob,kh _ _ q1,q2⟩⟩
 ·exact⟨⟨_,RM _ rfl,rfl,rfl⟩,let ⟨ob,q1,q2⟩:=hl2;⟨ob,RL _ q1,q2⟩⟩
 ·exact RL _ (k1 _ _ (RL _ q))
 ·exact⟨rfl,hQ h' tk kp di⟩
end
def yV:D->Option (List Key×D)
 |.tup [k,v]=>(kF k).map λq=>(q,v)
 |_=>none
def ml:List D->Option (List (List Key×D))
 |[]=>some []
 |d::r=>(yV d).bind λp=>(ml r).map (p::·)
def Ds(ps:List (List Key×D)):List (List Key×D):=ps.foldl (λal p=>iW al p.1 p.2) []
def wH:List D->Option D
 |[.lst xs]=>(ml xs).bind λps=>if small ps.length then some (fX (Ds ps))else none
 |_=>none
def De{d:D}{p:List Key×D}(h:yV d=some p):d=.tup [.tup (p.1.map bQ),p.2]:=by
 unfold yV at h;split at h
 ·rename_i k v;cases e:kF k with
  |none=>rw[e]at h;cases h
  |some q=>rw[e]at h;cases h;rw[ph e]
 ·cases h
def vx:∀{xs:List D}{ps:List (List Key×D)},ml xs=some ps->xs=ps.map λp=>.tup [.tup (p.1.map bQ),p.2]
 |[],_,h=>by cases h;rfl
 |d::r,ps,h=>by
  unfold ml at h;cases e1:yV d with
  |none=>rw[e1]at h;cases h
  |some p=>
   rw[e1]at h;cases e2:ml r with
   |none=>rw[e2]at h;cases h
   |some ps'=>rw[e2]at h;cases h;rw[De e1,vx e2];rfl
section
variable{X:Cx}
def vq{pins:List (Si×Obj)}{σ:St}{H:Hp}{s:Sw}{O:List Si}(I:L2.Inv X pins σ H s):∀{ps:List (List Key×D)}{ws:List V}{its:List Se},bx X.K (hid H O) (ps.map λp=>.tup [.tup (p.1.map bQ),p.2]) ws->Vals ws its->
  ∃(L:List (List Key×Si×Se))(ks:List (List Key×V)),its.length=L.length/\(∀(i:Nat)(v:Se),its[i]?=some v->∃(x:List Key×Si×Se)(t:Si),L[i]?=some x/\v=.ref t/\s.heap.IsTuple t #[.ref x.2.1,x.2.2])/\KT H ks L/\ks.map (·.1)=ps.map (·.1)/\bx X.K (hid H O) (ps.map (·.2)) (ks.map (·.2))
 |[],ws,its,h,r=>by
  rw[Pt,dA]at h;subst h;cases r;exact⟨[],[],rfl,(λi v e=>by simp at e),.nil,rfl,dA.mpr rfl⟩
 |p::ps,ws,its,h,r=>by
  rw[OZ,bP]at h;obtain⟨w,ws',rfl,h1,h2⟩:=h;cases r with
  |@cons _ u _ us ru rr=>
   obtain⟨L,ks,l1,l2,l3,l4,l5⟩:=vq I h2 rr;obtain⟨t,vs,rfl,t1,t2⟩:=cZ.mp h1;obtain⟨v1,v2,rfl,d1,d2⟩:=t2.two;obtain⟨a,ks1,rfl,a1,a2⟩:=cZ.mp d1;rw[li a2]at a1;obtain⟨its',r',⟨o,q1,q2⟩,_⟩:=I.tuple (cE (K:=X.K) (aU H O) t1);obtain⟨x1,x2,rfl,rx1,rx2⟩:=vals2 r';cases rx1;obtain rfl:u=Value.ref t:=ru;refine⟨(p.1,a,x2)::L,(p.1,v2)::ks,by rw[OY,OY,l1],λi v e=>?_,.cons ⟨rfl,(aU H O) _ _ a1,rx2⟩ l3,by rw[OZ,OZ,l4],bP.mpr ⟨v2,_,rfl,d2,l5⟩⟩;cases i with
   |zero=>
    have e:Value.ref t=v:=(by simpa using e);subst e;exact⟨_,t,rfl,rfl,o,q1,q2⟩
   |succ i=>exact l2 i v (by simpa using e)
def yO{K:Q7}{H:Hp}{H0:Hp}:∀{ps:List (List Key×D)}{ks:List (List Key×V)}{L:List (List Key×Si×Se)}{al:List (List Key×D)}{kvs:List (List Key×V)}{xs:List (List Key×Si×Se)},KT H ks L->ks.map (·.1)=ps.map (·.1)->bx K H0 (ps.map (·.2)) (ks.map (·.2))->
  KT H kvs xs->kvs.map (·.1)=al.map (·.1)->bx K H0 (al.map (·.2)) (kvs.map (·.2))->
  KT H (ks.foldl (λm p=>putK m p.1 p.2) kvs) (L.foldl (λxs x=>storedH xs x.1 x.2.1 x.2.2) xs)/\(ks.foldl (λm p=>putK m p.1 p.2) kvs).map (·.1)=(ps.foldl (λal p=>iW al p.1 p.2) al).map (·.1)/\
   bx K H0 ((ps.foldl (λal p=>iW al p.1 p.2) al).map (·.2)) ((ks.foldl (λm p=>putK m p.1 p.2) kvs).map (·.2))/\(ks.foldl (λm p=>putK m p.1 p.2) kvs).length<=kvs.length+ks.length
 |[],[],_,al,kvs,xs,.nil,_,_,h1,h2,h3=>⟨h1,h2,h3,by simp⟩
 |p::ps,q::ks,_,al,kvs,xs,.cons (b:=x) hq hr,e,d,h1,h2,h3=>by
  rw[OZ,OZ]at e;injection e with e1 e2;rw[OZ,OZ,bP]at d;obtain⟨v,vs,d0,d1,d2⟩:=d;injection d0 with d0 d0';subst d0 d0';obtain⟨y1,y2,y3⟩:=hq;have z1:=KT.put h1 q.1 y2 y3;rw[y1]at z1;have z2:=yM h2 q.1 q.2 p.2;have z3:=A3 (k:=q.1) d1 h2 h3
  have:=yO (kvs:=putK kvs q.1 q.2) (al:=iW al q.1 p.2) (xs:=storedH xs x.1 x.2.1 x.2.2) hr e2 d2 (by rw[y1];exact z1) z2 z3
  rw[Qv,Qv,Qv,<-e1];refine⟨this.1,this.2.1,this.2.2.1,OG this.2.2.2 ?_⟩
  have:=mX kvs q.1 q.2
  rw[OY];omega
 |[],_::_,_,_,_,_,_,e,_,_,_,_=>by cases e
 |_::_,[],_,_,_,_,_,e,_,_,_,_=>by cases e
def An(hc:X.calm=true)(hu:X.A.units+64<S6):eR X (.type "dict") (yP X.K wH):=by
 intro pins s σ H xs us Q I r ⟨O,ds,d,hO,hd,hg,q⟩;unfold wH at hg;split at hg
 ·rename_i ys;cases hp:ml ys with
  |none=>rw[hp]at hg;cases hg
  |some ps=>
   rw[hp]at hg;obtain⟨sm,rfl⟩:=cq (show(if small ps.length then some (fX (Ds ps))else none)=some d from hg);obtain⟨v,rfl,h1⟩:=hd.one;obtain⟨p,ws,rfl,g1,g2⟩:=cX.mp h1;obtain⟨u,rfl,ru⟩:=vals1 r;cases ru;obtain⟨its,rv,⟨o,n,ho,hcl,hd',hdd⟩,hz⟩:=I.list ((aU H O).seq g1);rw[vx hp]at g2;obtain⟨L,ks,l1,l2,l3,l4,l5⟩:=vq I g2 rv;have kl:ks.length=ps.length:=(by have:=congrArg List.length l4;simpa using this);have ll:ks.length=L.length:=Paired.length l3;have key:∀{ks:List (List Key×V)}{L:List (List Key×Si×Se)},KT H ks L->∀x∈L,∀h,Keeps s.heap h->(tupleKind (dr X.prog X.w)).is h x.1 x.2.1:=λ{ks L} kt=>by
    induction kt with
    |nil=>intro x hx;cases hx
    |cons hq _ ih=>
     intro x hx h kh;rcases List.mem_cons.mp hx with z|z
     ·subst z;obtain⟨e1,e2,_⟩:=hq;rw[e1]at e2;obtain⟨o,xs,n,k1,k2⟩:=tD I.hok e2;exact⟨o,xs,n,kh _ _ k1,k2⟩
     ·exact ih x z h kh
   obtain⟨f1,f2,f3,f4⟩:=yO (K:=X.K) (H:=H) (H0:=hid H O) (al:=[]) (kvs:=[]) (xs:=[]) l3 l4 l5 .nil rfl (dA.mpr rfl);have hsz:ps.length<=100000:=of_decide_eq_true sm;have sl:Sn=16777216:=SZ;refine sU (knd:=tupleKind (dr X.prog X.w)) (L:=L) ho hcl hdd hd' (I.ok.hd hc) (Tv (by rw[in1_units];omega)) (by simpa using l1) ‹0› (λi v e=>l2 i v (by simpa using e)) (key l3) λh' tk kp di=>?_;have hf:=I.hok.fresh (OT s.heap.objs.size);obtain⟨⟨od,es,ep,k1,k2,k3,k4,k5⟩,_⟩:=di;have kt':KT (upd H s.heap.objs.size (.dT (ks.foldl (λm p=>putK m p.1 p.2) []))) (ks.foldl (λm p=>putK m p.1 p.2) []) (L.foldl (λxs x=>storedH xs x.1 x.2.1 x.2.2) []):=KT.keeps f1 λb ys eb=>by rw[bp (λz=>by rw[z,hf]at eb;cases eb)];exact eb
   refine⟨.ref s.heap.objs.size,_,I.laid (t':=tk) kp (OT _) (show dq X.prog X.w _ h' _ (.dT (ks.foldl (λm p=>putK m p.1 p.2) []))from⟨by simp only[Px]at f4;omega,beq_eq_false_iff_ne.mpr (Ne.symm (OD I.big)),_,kt',od,es,ep,k1,k2,k3,k4,k5⟩),rfl,?_⟩;refine q _ _ (cI hf _) ?_;have pO:=hO.not hf;refine LX.mpr ⟨s.heap.objs.size,_,rfl,f3.mono (wM hf),.inr (.inl ⟨_,by rw[oY pO];exact bI,EL f2,rfl⟩)⟩
 ·cases hg
end
def qw(al:List (List Key×D))(q:List Key):Option D:=(al.find? λp=>decide (p.1=q)).map (·.2)
def Ku(ks ds:List D)(k x:D):Option D:=(qi ks ds).bind λal=>(kF k).bind λq=>some ((qw al q).getD x)
def NC(fo fk fx:FX):FX:=λρ=>(fo ρ).bind λdd=>match dd with
 |.dct ks ds=>(fk ρ).bind λk=>(fx ρ).bind λx=>rO (Ku ks ds k x)
 |_=>un
def yN{K:Q7}{H:Hp}{v:V}{al:List (List Key×D)}(h:dD K H (fX al) v):
  ∃a,v=.ref a/\((∃kvs:List (List Key×V),H a=some (.dT kvs)/\kvs.map (·.1)=al.map (·.1)/\bx K H (al.map (·.2)) (kvs.map (·.2)))\/(H a=some (.dK [])/\al=[])):=by
 obtain⟨a,vs,e0,h2,h3⟩:=LX.mp h;refine⟨a,e0,?_⟩;rcases h3 with⟨kvs,e,e1,e2⟩|⟨kvs,e,e1,e2⟩|⟨kvs,o,e,e1,e2⟩
 rotate_left 2
 ·cases al with
  |nil=>cases e1
  |cons _ _=>injection e1 with e1 _;cases e1
 ·cases kvs with
  |nil=>exact .inr ⟨e,by simpa using e1⟩
  |cons p r=>
   cases al with
   |nil=>cases e1
   |cons q r'=>
    have e1:D.tup (q.1.map bQ)::encK r'=bQ p.1::r.map (λp=>bQ p.1):=e1;injection e1 with e1 _;rcases p with⟨k,v⟩
    cases k<;>cases e1
 ·refine .inl ⟨kvs,e,?_,by rw[<-e2];exact h2⟩;exact(pG (ks:=kvs.map (·.1)) (by rw[QE];exact e1)).symm
def yI{K:Q7}{H:Hp}(q:List Key):∀{kvs:List (List Key×V)}{al:List (List Key×D)},kvs.map (·.1)=al.map (·.1)->bx K H (al.map (·.2)) (kvs.map (·.2))->(oG kvs q=none/\qw al q=none)\/∃v d,oG kvs q=some v/\qw al q=some d/\dD K H d v
 |[],[],_,_=>.inl ⟨rfl,rfl⟩
 |p::r,a::al,e,h=>by
  rw[OZ,OZ]at e;injection e with e1 e2;rw[OZ,OZ,bP]at h;obtain⟨v,ws,h0,h1,h2⟩:=h;injection h0 with h0 h0';subst h0 h0';by_cases z:p.1=q
  ·refine .inr ⟨p.2,a.2,mN z,?_,h1⟩;unfold qw;rw[QO (by rw[<-e1];simpa using z)];rfl
  ·have ih:=yI q e2 h2;have g:qw (a::al) q=qw al q:=by
    unfold qw;rw[QP (by rw[<-e1];simpa using z)]
   rw[mP z,g];exact ih
 |[],_::_,e,_=>by cases e
 |_::_,[],e,_=>by cases e
def gL(x y:D):Option D:=match y with
 |.dct ks ds=>(rj ks ds x).bind Ad
 |_=>none
section
variable{X:Cx}
def kT(hu:X.A.units+64<S6):kA X (SV .NotIn) (rD X.K gL):=by
 intro pins s σ H x y u v Q I rx ry ⟨O,a,b,d,hO,ha,hb,hg,q⟩;cases b with
 |dct ks ds=>
  have hg:(rj ks ds a).bind Ad=some d:=hg;cases e0:rj ks ds a with
  |none=>rw[e0]at hg;cases hg
  |some d0=>
  rw[e0]at hg;obtain⟨al,qk,f1,f2,f3,f4⟩:=zr e0;subst f1 f2 f3 f4;cases hg;obtain⟨p,ey,hh⟩:=yN hb;obtain⟨c,ws,ex,g1,g2⟩:=cZ.mp ha;rw[li g2]at g1;have g1':=(aU H O) _ _ g1;subst ex ey;cases ry;rcases hh with⟨kvs,k1,k2,k3⟩|⟨k1,rfl⟩
  ·have hv:=Dt k2 qk;rw[QF]at hv;refine Bh ‹0› I (EZ.t ((aU H O) _ _ k1) g1') rx λs3 I3=>⟨.bl (!(oG kvs qk).isSome),H,I3,rfl,q _ H (bT.refl H) (lM.mpr ?_)⟩
   rw[hv];rfl
  ·have k1':=(aU H O) _ _ k1;have ne:c≠p:=λz=>by rw[z,k1']at g1';cases g1'
   refine Bh (o:=oG [] qk) ‹0› (Iu I k1') (EZ.t bI (by rw[bp ne];exact g1')) rx λs3 I4=>⟨.bl true,H,?_,rfl,q _ H (bT.refl H) (lM.mpr rfl)⟩
   have I5:=K4 I4 bI;rw[Et k1']at I5;exact I5
 |_=>cases hg
end
end TG
namespace TG
open PySem PySem.Spec L2
variable[bh]
end TG
namespace TG
open PySem PySem.Spec L2
variable[bh]
end TG
namespace TG
open PySem PySem.Spec L2
variable[bh]
end TG
namespace TG
open PySem PySem.Spec PySem.Calls L2
variable[bh]
end TG
namespace TG
open PySem PySem.Spec L2
variable[bh]
end TG
namespace TG
open PySem PySem.Spec L2
variable[bh]
end TG
namespace TG
open PySem PySem.Spec L2
variable[bh]
abbrev My(al:List (List Key×D)):D:=.dct (.non::encK al) (al.map (·.2))
def Ag{α β:Type}{R:α->β->Prop}:∀{xs:List α}{ys:List β},Sj R xs ys->∀{i:Nat}{x:α},xs[i]?=some x->∃y,ys[i]?=some y/\R x y:=λh=>by
 induction h with
 |nil=>intro i x e;simp at e
 |cons hq _ ih=>
  intro i x e;cases i with
  |zero=>rw[Qi]at e;cases e;exact⟨_,rfl,hq⟩
  |succ i=>rw[Qj]at e ⊢;exact ih e
def Bt{K:Q7}{H:Hp}:∀q:List Key,bx K H (q.map bQ) (q.map kV)
 |[]=>dA.mpr rfl
 |k::q=>bP.mpr ⟨kV k,_,rfl,by cases k with|inl i=>exact gG.mpr rfl|inr x=>exact gJ.mpr rfl,Bt q⟩
abbrev yw(p:List Key×D):D:=.tup [.tup (p.1.map bQ),p.2]
def EG{K:Q7}{H:Hp}{v:V}{al:List (List Key×D)}(h:dD K H (My al) v):∃a o kvs,v=.ref a/\H a=some (.frz o (.dT kvs))/\kvs.map (·.1)=al.map (·.1)/\bx K H (al.map (·.2)) (kvs.map (·.2)):=by
 obtain⟨a,vs,e0,h2,h3⟩:=LX.mp h;rcases h3 with⟨kvs,e,e1,e2⟩|⟨kvs,e,e1,e2⟩|⟨kvs,o,e,e1,e2⟩
 ·cases kvs with
  |nil=>cases e1
  |cons p r=>
   injection e1 with e1 _;rcases p with⟨k,v⟩
   cases k<;>cases e1
 ·cases kvs with
  |nil=>cases e1
  |cons p r=>injection e1 with e1 _;cases e1
 ·injection e1 with _ e1;subst e2;exact⟨a,o,kvs,e0,e,(pG (ks:=kvs.map (·.1)) (by rw[QE];exact e1)).symm,h2⟩
end TG
namespace TG
open PySem PySem.Spec L2
section
variable{prog:Sg}{w:Sf}{A:Sv}{E:Se->Sw->Prop}{s:Sw}{it d:Si}{i ep:Nat}{o:Obj}{es:Array DictEntry}
def Cu{Q:Se->Sw->Prop}(hd:(d==sysModules)=false)(ho:s.heap.get? d=some o)(hx:o.ExactDict)(hdat:o.data=.dict es ep)
  (hQ:Q (.ref s.heap.objs.size) {s with heap:=s.heap.push {cls:=.type "dict_keyiterator",data:=.fields #[.ref d,.int 0 0,.int es.size 0,.int ep 0]}}):Sy (model prog w) A (pyIter (.ref d)) Q E s:=by
 have hT:s.TypeIs (.ref d) "dict":=⟨o,ho,hx.1⟩
 refine wpAny_pyIter_slot hT F.slot_dict_iter (To F.slot_dict_iter hT F.entry_dict_iter ?_ (F.args_dict_iter_1 _));unfold Builtin.«dict.__iter__»;refine SK ?_;unfold Builtin.Dict.dictSlotNone;refine SK (wpAny_notOrdered_dict hT ?_);show Sy _ _ (pure (Value.ref d)) _ _ s;refine SJ ?_;show Sy _ _ (Builtin.Dict.showsAll d >>= _) _ _ s;unfold Builtin.Dict.showsAll;rw[if_neg (by rw[hd];exact OX)];refine SK (SJ (SK (T9 ho hdat (SK (Ua ho hdat ?_)))));refine SK (Tq (SJ ⟨_,rfl,"dict_keyiterator",_,⟨_,RM _ rfl,rfl⟩,F.slot_dict_keyiterator_next.lookup,?_⟩));simpa [rawInt]using hQ
def BX{Q:Option Se->Sw->Prop}(hit:s.heap.IsKeyIter it d i es.size ep)(hod:s.heap.get? d=some o)(hdd:o.data=.dict es ep)(hlt:i<es.size)
  (hQ:∀h',h'.IsKeyIter it d (i+1) es.size ep->RK it s.heap h'->Q (some es[i].key) {s with heap:=h'}):Sy (model prog w) A (pyNext (.ref it)) Q E s:=by
 obtain⟨oi,ho,hc,hd⟩:=id hit;unfold pyNext;refine SK (TV (Tn (name:=Str.ofString "__next__") hit.typeIs F.slot_dict_keyiterator_next (To F.slot_dict_keyiterator_next hit.typeIs F.entry_dict_keyiterator_next ?_ (F.args_dict_keyiterator_next_1 _))));refine SK (SJ (SK (SK ?_)));first|refine SK (Ub hit.typeIs (SJ ?_))|refine SK (Uc hit.typeIs (SJ ?_))
 refine SK (wpAny_fieldsOf ho hd ?_);have hown:Builtin.Dict_items.ownsTuple "dict_keyiterator"=false:=by decide
 simp only[hown,PF,if_false];show Sy _ _ (if(Value.ref d==Value.none)=true then _ else _) _ _ s;rw[if_neg (show¬((Value.ref d==Value.none)=true)from OX)];refine SK (SJ (SK (T9 hod hdd ?_)));rw[if_neg (by simp)];refine SK (SJ (SK (Ua hod hdd ?_)));rw[if_neg (by simp)];refine SJ ?_;simp only[show¬((i:Int)<0)from by omega,if_false,Pl,Array.getElem?_eq_getElem hlt];refine SK ?_;first|refine SK (Ub hit.typeIs (SJ ?_))|refine SK (Uc hit.typeIs (SJ ?_))
 refine SK (wpAny_isOneOf_keyiter hit.typeIs ?_);show Sy _ _ (setField (.ref it) 1 (rawInt ((i:Int)+1)) >>= _) _ _ s;refine SK (TH ho hd (by simp) ?_);have hit':(s.heap.update it (Obj.mapFields (·.setIfInBounds 1 (rawInt ((i:Int)+1))))).IsKeyIter it d (i+1) es.size ep:=⟨_,RO _ ho (Obj.isFreed_of_fields (Obj.data_mapFields hd _)),(Obj.cls_mapFields ..).trans hc,by rw[Obj.data_mapFields hd];simp[rawInt]⟩
 refine SK (Tl (SK (wpAny_isOneOf_keyiter (s:={s with heap:=s.heap.update it (Obj.mapFields (·.setIfInBounds 1 (rawInt ((i:Int)+1))))}) hit'.typeIs ?_)));show Sy _ _ (pure es[i].key) _ _ _;exact SJ (SJ ⟨_,rfl,SJ (hQ _ hit' (Heap.SameBut.update ..))⟩)
def Ec{Q:Option Se->Sw->Prop}(hh:A.handled=none)(hit:s.heap.IsKeyIter it d i es.size ep)(hod:s.heap.get? d=some o)(hdd:o.data=.dict es ep)(hge:es.size<=i)(hQ:∀h',Heap.ExtBut it s.heap h'->Q none {s with heap:=h'}):Sy (model prog w) A (pyNext (.ref it)) Q E s:=by
 obtain⟨oi,ho,hc,hd⟩:=id hit;unfold pyNext;refine SK (TV (Tn (name:=Str.ofString "__next__") hit.typeIs F.slot_dict_keyiterator_next (To F.slot_dict_keyiterator_next hit.typeIs F.entry_dict_keyiterator_next ?_ (F.args_dict_keyiterator_next_1 _))));refine SK (SJ (SK (SK ?_)));first|refine SK (Ub hit.typeIs (SJ ?_))|refine SK (Uc hit.typeIs (SJ ?_))
 refine SK (wpAny_fieldsOf ho hd ?_);have hown:Builtin.Dict_items.ownsTuple "dict_keyiterator"=false:=by decide
 simp only[hown,PF,if_false];show Sy _ _ (if(Value.ref d==Value.none)=true then _ else _) _ _ s;rw[if_neg (show¬((Value.ref d==Value.none)=true)from OX)];refine SK (SJ (SK (T9 hod hdd ?_)));rw[if_neg (by simp)];refine SK (SJ (SK (Ua hod hdd ?_)));rw[if_neg (by simp)];refine SJ ?_;simp only[show¬((i:Int)<0)from by omega,if_false,Pl,Array.getElem?_eq_none hge];refine SK ?_;first|refine SK (Ub hit.typeIs (SJ ?_))|refine SK (Uc hit.typeIs (SJ ?_))
 show Sy _ _ (setField (.ref it) 0 .none >>= _) _ _ s;refine SK (TH ho hd (by simp) ?_);show Sy _ _ (newExc (.type "StopIteration") [] >>= _) _ _ _;refine SK ?_;simp only[newExc,newTuple];refine SK (Tq ?_ (by size_fits));refine SK (m:=firstArgMember _ _) (wpAny_of_eq (a:=Value.none) (by first|rfl|(simp only[firstArgMember];rfl)) ?_);refine Tq ?_ (by size_fits);simp only[raiseNew];refine SK (wpAny_handled ?_);rw[show A.in1.handled=none from hh];refine SK (SJ (wpAny_throw ?_));refine SK (TY (T:="StopIteration") (b:=true) ⟨_,RM _ rfl,rfl⟩ isSubtype_stop ?_);exact SJ (hQ _ (((Heap.SameBut.update ..).extBut.push _).push _))
def Ih(d:Si)(o:Obj)(es:Array DictEntry)(ep:Nat)(h:Sl):Prop:=h.get? d=some o/\o.ExactDict/\o.data=.dict es ep
def zC(hh:A.handled=none)(I:Si)(hne:d≠I):Walks prog w A I [I,d] [I] es.size (λi v=>∃e,es[i]?=some e/\v=e.key) (λi h=>h.IsKeyIter I d i es.size ep/\Ih d o es ep h)where
 sub:=λb hb=>by simp at hb;simp[hb]
 frame:=λ_ _ _ st hk=>⟨st.1.at λo e=>hk I (by simp) o e,hk d (by simp) _ st.2.1,st.2.2⟩
 item:=λi s Q E hi st hQ=>BX st.1 st.2.1 st.2.2.2 hi λh' hit' hs'=>hQ _ h' s.toks ⟨es[i],by simp[hi],rfl⟩ ⟨hit',(hs'.2 d hne).trans st.2.1,st.2.2⟩ λb o hb e=>hs'.extBut b o (λh=>hb (by simp[h])) e
 done:=λs Q E st hQ=>Ec hh st.1 st.2.1 st.2.2.2 (OT _) λh' he'=>hQ h' s.toks λb o hb e=>he' b o (λh=>hb (by simp[h])) e
 self:=λ_ _ _ _ st hQ=>wpAny_pyIter_keyiter st.1 hQ
def Dz(lo:(d==sysModules)=false):PySem.W.KdlSrc prog w "dict" d d es.size (λi v=>∃e,es[i]?=some e/\v=e.key) (Ih d o es ep)where
 type:=λ_ hm=>⟨o,hm.1,hm.2.1.1⟩
 there:=λ_ hm=>⟨RH hm.1,RH hm.1⟩
 keep:=λ_ _ hm hk=>⟨hk d (.inl rfl) o hm.1,hm.2⟩
 notList:=by decide
 notTuple:=by decide
 hint:=λ_ _ _ _ hm hq=>PySem.W.kdl_hint_dict ⟨o,hm.1,hm.2.1.1⟩ hq
 iter:=λ_ _ hh hm=>⟨_,_,(λ_ _ hq=>Cu lo hm.1 hm.2.1 hm.2.2 hq),zC (ep:=ep) (o:=o) hh _ (OD (RH hm.1)),⟨⟨_,RM _ rfl,rfl,rfl⟩,RL _ hm.1,hm.2⟩⟩
end
variable[bh]
def Fg:List D->List D->Option (List (List Key×D))
 |.non::ks,ds=>qi ks ds
 |ks,ds=>qi ks ds
def Bs{K:Q7}{H:Hp}{v:V}{ks ds:List D}{al:List (List Key×D)}(h:dD K H (.dct ks ds) v)(e:Fg ks ds=some al):
  ∃a,v=.ref a/\((∃kvs:List (List Key×V),Rd H a (.dT kvs)/\kvs.map (·.1)=al.map (·.1)/\bx K H (al.map (·.2)) (kvs.map (·.2)))\/(H a=some (.dK [])/\al=[])):=by
 unfold Fg at e;split at e
 ·obtain⟨f1,f2⟩:=p5 e;subst f1 f2;obtain⟨a,o,kvs,q1,q2,q3,q4⟩:=EG h;exact⟨a,q1,.inl ⟨kvs,.inr ⟨o,q2⟩,q3,q4⟩⟩
 ·obtain⟨f1,f2⟩:=p5 e;subst f1 f2;obtain⟨a,q1,q2⟩:=yN h;rcases q2 with⟨kvs,q2,q3⟩|q2
  ·exact⟨a,q1,.inl ⟨kvs,.inl q2,q3⟩⟩
  ·exact⟨a,q1,.inr q2⟩
section
variable{X:Cx}
def lV:List D->Option D
 |[.dct ks ds]=>(Fg ks ds).bind λal=>some (.lst (encK al))
 |_=>none
def D9{pins:List (Si×Obj)}{σ:St}{H:Hp}{s:Sw}(I:Inv X pins σ H s){a:Si}{kvs:List (List Key×V)}(e:Rd H a (.dT kvs)):kvs.length<=Sn/\(a==sysModules)=false/\∃o es ep,Ih a o es ep s.heap/\es.size=kvs.length/\∀(i:Nat) u,es[i]?=some u->∃b q,u.key=.ref b/\kvs[i]?.map (·.1)=some q/\H b=some (.tup (q.map kV)):=by
 obtain⟨z,hd,xs,rel,o,es,ep,h1,h2,h3,h4,_⟩:=xW I.hok e;have hl:es.size=kvs.length:=by rw[<-Array.length_toList,h4,O0];exact(Paired.length rel).symm
 refine⟨z,hd,o,es,ep,⟨h1,h2,h3⟩,hl,λi u eu=>?_⟩;have hi:i<kvs.length:=by
  have:=(Array.getElem?_eq_some_iff.mp eu).1
  omega
 obtain⟨x,ex,f1,f2,f3⟩:=Ag rel (i:=i) (x:=kvs[i]) (by simp[hi])
 have:es.toList[i]?=some (entryOfKey (tupleKind (dr X.prog X.w)) x):=by rw[h4,Ph,ex];rfl
 rw[Array.getElem?_toList,eu]at this;cases this;exact⟨x.2.1,kvs[i].1,rfl,by simp[hi],f2⟩
def tJ(hc:X.calm=true):eR X (.type "list") (yP X.K lV):=by
 intro pins s σ H xs us Q I r ⟨O,ds,d,hO,hd,hg,q⟩;unfold lV at hg;split at hg
 ·rename_i ks vs0;cases hk:Fg ks vs0 with
  |none=>rw[hk]at hg;cases hg
  |some al=>
   rw[hk]at hg;cases hg;obtain⟨v,ev,h1⟩:=hd.one;subst ev;obtain⟨a,ea,hh⟩:=Bs h1 hk;subst ea;obtain⟨u,rfl,ru⟩:=vals1 r;cases ru;have fin:∀(H0:Hp)(kvs:List (List Key×V)),Inv X pins σ H0 s->Rd H0 a (.dT kvs)->kvs.map (·.1)=al.map (·.1)->(∀b ys,H0 b=some (.tup ys)->H b=some (.tup ys))->Sy (model X.prog X.w) X.A (call (.type "list") [.ref a]) (EP X pins σ Q) X.xe s:=λH0 kvs I0 hr hk2 ht=>by
    obtain⟨z,hs,o,es,ep,raw,hsz,hkey⟩:=D9 I0 hr;have hl:al.length=kvs.length:=(by have:=congrArg List.length hk2;simpa using this.symm);refine RD (Dz hs) (I.ok.hd hc) raw (by rw[hsz];exact z) λh' tk acc' c' kp e2 it=>?_;have key:∃ws:List V,Vals ws acc'.toList/\bx X.K (hid H O) (encK al) ws:=by
     have hlen:acc'.toList.length=al.length:=(by rw[Array.length_toList,it.1,hsz,hl]);have each:∀(j:Nat)(u:Se),acc'.toList[j]?=some u->∃b q,u=.ref b/\al[j]?.map (·.1)=some q/\H b=some (.tup (q.map kV)):=λj u e=>by
      obtain⟨en,e3,e4⟩:=it.2 j u (by rw[<-Array.getElem?_toList];exact e);obtain⟨b,q,w1,w2,w3⟩:=hkey j en e3;refine⟨b,q,by rw[e4,w1],?_,ht _ _ w3⟩
      have:=congrArg (λl=>l[j]?) hk2
      simp only[Ph]at this;rw[<-this];exact w2
     clear it e2;generalize acc'.toList=us at hlen each;clear hk hl hk2 h1 hh q
     induction us generalizing al with
     |nil=>
      cases al with
      |nil=>exact⟨[],.nil,dA.mpr rfl⟩
      |cons _ _=>cases hlen
     |cons u us ih=>
      cases al with
      |nil=>cases hlen
      |cons p al=>
       obtain⟨ws,w1,w2⟩:=ih (al:=al) (by simpa using hlen) λj u e=>by
        have:=each (j+1) u (by rw[Qj];exact e)
        rw[Qj]at this;exact this
       obtain⟨b,q,e1,e2,e3⟩:=each 0 u rfl;cases e2;have bO:b∉O:=λz=>by
        obtain⟨u',q1,q2⟩:=hO.2 b z;rw[e3]at q1;cases q1;exact q2
       exact⟨.ref b::ws,.cons (by rw[e1];rfl) w1,bP.mpr ⟨.ref b,ws,rfl,cZ.mpr ⟨b,_,rfl,by rw[oY bO];exact e3,Bt p.1⟩,w2⟩⟩
    obtain⟨ws,rv,dn⟩:=key;have wl:ws.length<=Sn:=(by rw[<-dn.length,O0,hl];exact z);refine⟨.ref s.heap.objs.size,_,I.laid (t':=tk) kp (OT _) (show dq X.prog X.w _ h' _ (.lst ws)from⟨wl,acc'.toList,c',rv,by simpa using e2⟩),rfl,?_⟩;have hf:=I.hok.fresh (OT s.heap.objs.size);exact q _ _ (cI hf _) (dY hO hf dn)
   rcases hh with⟨kvs,hr,e1,_⟩|⟨hr,e1⟩
   ·refine fin H kvs I ?_ e1 λ_ _ z=>z;rcases hr with hr|⟨o,hr⟩
    ·exact .inl ((aU H O) _ _ hr)
    ·exact .inr ⟨o,(aU H O) _ _ hr⟩
   ·have ha:=(aU H O) _ _ hr;refine fin _ [] (Iu I ha) (.inl bI) (by rw[e1];rfl) λb ys eb=>?_;by_cases z:b=a
    ·rw[z,bI]at eb;cases eb
    ·rw[bp z]at eb;exact eb
 ·cases hg
end
end TG
namespace TG
open PySem PySem.Spec PySem.Calls L2
variable[bh]
def zv(dd k:D):Option D:=match dd with
 |.dct ks ds=>(Fg ks ds).bind λal=>(kF k).bind λq=>qw al q
 |_=>none
def IB{H:Hp}{O:List Si}{a:Si}{u:HO}(h:Rd (hid H O) a u):Rd H a u:=by
 rcases h with h|⟨o,h⟩
 ·exact .inl ((aU H O) _ _ h)
 ·exact .inr ⟨o,(aU H O) _ _ h⟩
section
variable{X:Cx}
def Nn{o e:Sz}{fo fk:FX}{pos:Pos}(hu:X.A.units+64<S6)(ho:FE X o fo)(hi:FE X e fk)(hs:Fx e):FE X (.Subscript o e pos) (f2 zv fo fk):=
 PE.weak (GJ ‹0› ho hi hs) λσ H Q ⟨O,ρ,E,hF⟩=>⟨O,ρ,E,(jJ.bind hF).imp λdd hF v H1 s1 d1=>⟨O,ρ,E.same s1,((jJ.bind hF).mono s1).imp λk hF y H2 s2 d2=>by
  obtain⟨d,hg,q⟩:=jJ.rO hF;cases dd with
  |dct ks ds=>
   have hg:(Fg ks ds).bind (λal=>(kF k).bind λq=>qw al q)=some d:=hg;cases hk:Fg ks ds with
   |none=>rw[hk]at hg;cases hg
   |some al=>
    rw[hk]at hg;cases ht:kF k with
    |none=>rw[ht]at hg;cases hg
    |some qk=>
     rw[ht]at hg;have hg:qw al qk=some d:=hg;obtain⟨a,ea,hh⟩:=Bs (d1.mono (cH s2)) hk;rw[ph ht]at d2;obtain⟨b,ws,eb,g1,g2⟩:=cZ.mp d2;rw[li g2]at g1;rcases hh with⟨kvs,hr,e1,e2⟩|⟨_,rfl⟩
     ·rcases yI qk e1 e2 with⟨_,z2⟩|⟨w,d',z1,z2,z3⟩
      ·rw[z2]at hg;cases hg
      ·rw[z2]at hg;cases hg;exact⟨a,w,ea,by rw[<-z1];exact .inr ⟨kvs,qk,b,IB hr,eb,(aU H2 O) _ _ g1,rfl⟩,q w H2 (s1.trans s2) z3⟩
     ·cases hg
  |_=>cases hg⟩⟩
end
def CD(i:Nat)(f:FX):cK:=λk ρ=>match ρ[i]? with
 |some (some (.own (.lst xs)))=>su (f ρ) k ρ λd=>match d with
  |.lst ys=>if small (xs.length+ys.length)then k.nx (ρ.set i (some (.own (.lst (xs++ys)))))else un
  |_=>un
 |_=>un
def NS{X:Cx}{i:Nat}{x:Str}{e:Sz}{f:FX}{npos apos cpos pos:Pos}(hx:PE X (.Name x npos) (uW i))(he:FN X e f)(hns:noStar e=true:=by rfl)
  (hbase:Tt (.Name x npos) "extend" X.env (eval (.Name x npos) X.env)=eval (.Name x npos) X.env:=by rfl)
  (hfew:((backTo cpos (SA [e] X.env)).all (λx=>!x.1)&&(backToKw cpos (S4 [] X.env)).all (λx=>x.1.isSome)&&decide (([e]:List Sz).length+([]:List Tu).length+(if([]:List Tu).isEmpty then 0 else 1)<30))=true:=by rfl)
  (hline:(apos.endLine==cpos.line)=true:=by rfl) (hplain:(backTo cpos (SA [] X.env)).any (·.1)=false:=by rfl)
  (hsw:swapsWith (.Call (.Attribute (.Name x npos) "extend" apos) [e] [] cpos) none pos.line X.env=pure false:=by rfl):
  FS X (.Expr (.Call (.Attribute (.Name x npos) "extend" apos) [e] [] cpos) pos) (CD i f):=λHb Ob pins s σ H E I ⟨O,ρ,k,rr,S,hF,hk⟩=>by
 unfold CD at hF;split at hF
 ·rename_i xs hxs;obtain⟨a,ha,haO,hat⟩:=S.env.own i _ hxs;obtain⟨o,vs0,ho,eo,dn⟩:=hat;subst eo;refine Bb (HA F.plainAttrs_list F.slot_list_extend F.type_list_extend CV hx (pj he wq (fN hns)) hbase hfew hline (fN hns) hplain) hsw pins s σ H E I ⟨.ref a,ha,.inl ⟨rfl,vs0,o9.of ho⟩,O,ρ,S.env,jJ.on hF hk S λd hr p H1 s1 hp m own=>?_⟩;have S1:=S.same s1;cases d with
  |lst ys=>
   have hr:(if small (xs.length+ys.length)then k.nx (ρ.set i (some (.own (.lst (xs++ys)))))else un)=rr:=hr;cases hsm:small (xs.length+ys.length)with
   |false=>rw[hsm]at hr;exact absurd hr.symm hk.ne
   |true=>
    rw[hsm]at hr;obtain⟨o,zs,h1,h2,h3⟩:=own;subst h2;have dz:bx X.K (hid H1 O) ys zs:=h3.mono (jI λb hb=>OL _ hb);have hz:=e7 hsm;exact⟨a,p,vs0,zs,rfl,rfl,s1 _ _ ho,h1,by rw[<-dn.length,<-dz.length];exact hz,hk.nx O _ σ _ (S1.setO hxs ha trivial (rB haO ((dn.mono (cH s1)).append dz))) hr⟩
  |_=>exact absurd (show un=rr from hr).symm hk.ne
 ·exact absurd hF.symm hk.ne
end TG
namespace L2
open PySem PySem.Spec PyProof.Rows
end L2
namespace TG
open PySem PySem.Spec L2
variable[bh]
end TG
namespace TX
open PySem PySem.Spec L2 TG
variable[bh]
structure XE(X:Cx)(e:Sz)(F:FX):Prop where h:FE X e F
structure XT(X:Cx)(e:Sz)(F:ay->R Bool):Prop where h:FT X e F
structure XW(X:Cx)(e:Sz)(F:ay->R Bool):Prop where h:FW X e F
structure XA(X:Cx)(e:List Sz)(F:ay->R (List D)):Prop where h:FA X e F
structure XS(X:Cx)(e:SD)(F:cK):Prop where h:FS X e F
structure Cj(X:Cx)(e:List SD)(F:cK):Prop where h:Bi X e F
structure XI(X:Cx)(t e:Sz)(F:ay->R (List D)):Prop where h:FI X t e F
structure XG(X:Cx)(e:Sz)(F:GF):Prop where h:FG X e F
structure Lp(X:Cx)(e:List Sz)(F:C4):Prop where h:JO X e F
structure XO(X:Cx)(e:Option Sz)(F:ay->R (Option Int)):Prop where h:FO X e F
structure XN(X:Cx)(e:Sz)(F:FX):Prop where h:FN X e F
structure MY(X:Cx)(e:List Sz)(F:ay->R Bool):Prop where h:L8 X e F
structure XV(X:Cx)(e:Sz)(i:Nat):Prop where h:PE X e (uW i)
structure XB(X:Cx)(scope:Sx)(N:List Str)(tg elt:Sz)(ifs:List Sz)(g:GF)(C:ay->R Bool)(Fe:FX)(cl:List (Str×Si))(C':Si)(fp:List Si)(s:Sw)(H:Hp)(E:Se->Sw->Prop):Prop where
 a:XG (dh X scope N cl C' fp s H E) tg g
 b:MY (dh X scope N cl C' fp s H E) ifs C
 c:XE (dh X scope N cl C' fp s H E) elt Fe
structure DW(X:Cx)(scope:Sx)(N:List Str)(tg elt:Sz)(ifs:List Sz)(g:GF)(C:ay->R Bool)(Fe:FX):Prop where
 q:∀cl C' fp s H E,XB X scope N tg elt ifs g C Fe cl C' fp s H E
def DW.h{X:Cx}{scope:Sx}{N:List Str}{tg elt:Sz}{ifs:List Sz}{g:GF}{C:ay->R Bool}{Fe:FX}(x:DW X scope N tg elt ifs g C Fe):Jz X scope N tg elt ifs g C Fe:=λcl C' fp s H E=>⟨(x.q cl C' fp s H E).a.h,(x.q cl C' fp s H E).b.h,(x.q cl C' fp s H E).c.h⟩
def xv{X:Cx}(i:Nat){x:Str}{pos:Pos}(hN:X.N[i]?=some x:=by rfl)(hv:Ig X.env.scope x:=by first|exact Or.inl rfl|exact Or.inr (Or.inl rfl)|exact Or.inr (Or.inr rfl))(hd:(x==("__debug__":Str))=false:=by decide)
  (hcd:(x==("__classdict__":Str))=false:=by decide):XV X (.Name x pos) i:=⟨pv i hN hv hd hcd⟩
def Kh{X:Cx}{e:Sz}{f:ay->R Bool}(h:XW X e f):XT X e f:=⟨FW.ft h.h⟩
section
variable[bh]{X:Cx}
def ae{i:Nat}{x:Str}{pos:Pos}(h:XV X (.Name x pos) i):XE X (.Name x pos) (ah i):=⟨TG.Nh h.h⟩
end
section
variable[bh]{X:Cx}
def ai{i j pos}:XE X (.Constant (.int i) j pos) (fC (.int i)):=⟨TG.Nc ⟩
end
section
variable[bh]{X:Cx}
def jo{b j pos}:XE X (.Constant (.bool b) j pos) (fC (.bl b)):=⟨TG.NV ⟩
end
section
variable[bh]{X:Cx}
def pM{j pos}:XE X (.Constant .none j pos) (fC .non):=⟨TG.MK ⟩
end
section
variable[bh]{X:Cx}
def cO{x j pos}:XE X (.Constant (.str x) j pos) (fC (.str x)):=⟨TG.M2 ⟩
end
section
variable[bh]{X:Cx}
def aj:XA X [] aq:=⟨TG.MX ⟩
end
section
variable[bh]{X:Cx}
def aa{e:Sz}{es:List Sz}{f:FX}{g:ay->R (List D)}(he:XE X e f)(hs:XA X es g)(hns:noStar e=true:=by rfl):XA X (e::es) (af f g):=⟨TG.Lx he.h hs.h hns⟩
end
section
variable[bh]{X:Cx}
def aO{es:List Sz}{g:ay->R (List D)}{k pos}(h:XA X es g):XE X (.Tuple es k pos) (aL g):=⟨TG.M6 h.h⟩
end
section
variable[bh]{X:Cx}
def eG{es:List Sz}{g:ay->R (List D)}{pos}(h:XA X es g):XE X (.List es pos) (gE g):=⟨TG.NI h.h⟩
end
section
variable[bh]{X:Cx}
def au{a b:Sz}{op:Operator}{r:R2}{g:D->D->Option D}{fa fb:FX}{pos:Pos}(ho:kA X (SU op) r)(s:dE X.K r g)(ha:XE X a fa)(hb:XE X b fb):XE X (.BinOp a op b pos) (f2 g fa fb):=⟨TG.Np ho s ha.h hb.h⟩
end
section
variable[bh]{X:Cx}
def j7{a b:Sz}{op:SW}{r:R2}{g:D->D->Option D}{fa fb:FX}{pos:Pos}(ho:kA X (SV op) r)(s:dE X.K r g)(ha:XE X a fa)(hb:XE X b fb)(hm:SY op b=false):XE X (.Compare a [op] [b] pos) (f2 g fa fb):=⟨TG.MB ho s ha.h hb.h hm⟩
end
section
variable[bh]{X:Cx}
def bC{a b:Sz}{op:SW}{r:R2}{g:D->D->Option D}{fa fb:FX}{pos:Pos}(ho:kA X (SV op) r)(s:dE X.K r g)(ha:XE X a fa)(hb:XE X b fb)(hm:SY op b=false):XT X (.Compare a [op] [b] pos) (fB (f2 g fa fb)):=⟨TG.Nt ho s ha.h hb.h hm⟩
end
section
variable[bh]{X:Cx}{a b c:Sz}{rest:List Sz}{pos:Pos}{f g:ay->R Bool}
def pF(h:XT X a f):XT X (.UnaryOp .Not a pos) (yZ f):=⟨TG.Nv h.h⟩
end
section
variable[bh]{X:Cx}{a b c:Sz}{rest:List Sz}{pos:Pos}{f g:ay->R Bool}
def pU(h:XT X a f):XW X (.BoolOp .Or [a] pos) f:=⟨TG.Mz h.h⟩
end
section
variable[bh]{X:Cx}{a b c:Sz}{rest:List Sz}{pos:Pos}{f g:ay->R Bool}
def uD(ha:XT X a f)(hb:XW X (.BoolOp .Or (b::rest) pos) g):XW X (.BoolOp .Or (a::b::rest) pos) (FQ f g):=⟨TG.N4 ha.h hb.h⟩
end
section
variable[bh]{X:Cx}{a b c:Sz}{rest:List Sz}{pos:Pos}{f g:ay->R Bool}{fa fb:FX}
def gO{op}(h:XE X a fa):XE X (.BoolOp op [a] pos) fa:=⟨TG.Mq h.h⟩
end
section
variable[bh]{X:Cx}{a b c:Sz}{rest:List Sz}{pos:Pos}{f g:ay->R Bool}{fa fb:FX}
def gH(ha:XE X a fa)(hb:XE X (.BoolOp .And (b::rest) pos) fb):XE X (.BoolOp .And (a::b::rest) pos) (iz fa fb):=⟨TG.Mf ha.h hb.h⟩
end
section
variable[bh]{X:Cx}{a b c:Sz}{rest:List Sz}{pos:Pos}{f g:ay->R Bool}{fa fb:FX}
def IC(ha:XE X a fa)(hb:XE X (.BoolOp .Or (b::rest) pos) fb):XE X (.BoolOp .Or (a::b::rest) pos) (FP fa fb):=⟨TG.NW ha.h hb.h⟩
end
section
variable[bh]{X:Cx}{a b c:Sz}{rest:List Sz}{pos:Pos}{f g:ay->R Bool}{fa fb:FX}
def Bm(ha:XE X a fa):XE X (.UnaryOp .Not a pos) (ye fa):=⟨TG.Ma ha.h⟩
end
section
variable[bh]{X:Cx}{a b c:Sz}{rest:List Sz}{pos:Pos}{f g:ay->R Bool}{fa fb:FX}
def E9(hc:XT X c f)(ha:XE X a fa)(hb:XE X b fb):XE X (.IfExp c a b pos) (K3 f fa fb):=⟨TG.NY hc.h ha.h hb.h⟩
end
section
variable[bh]{X:Cx}
def az{a b:Sz}{fa fb:FX}{pos:Pos}(ha:XE X a fa)(hb:XE X b fb)(hs:xr b):XE X (.Subscript a b pos) (f2 aD fa fb):=⟨TG.N2 ha.h hb.h hs⟩
end
section
variable[bh]{X:Cx}
def cM:XO X none bz:=⟨TG.Li ⟩
end
section
variable[bh]{X:Cx}
def cN{e:Sz}{f:FX}(h:XE X e f):XO X (some e) (cC f):=⟨TG.LA h.h⟩
end
section
variable[bh]{X:Cx}
def cw{e:Sz}{f:FX}{l h:ay->R (Option Int)}{lo hi:Option Sz}{p2 pos:Pos}(he:XE X e f)(hl:XO X lo l)(hh:XO X hi h):XE X (.Subscript e (.Slice lo hi none p2) pos) (bM f l h):=⟨TG.Kl he.h hl.h hh.h⟩
end
section
variable[bh]{X:Cx}{x:Str}{p pos:Pos}{e:Sz}{es:List Sz}{id T:String}{g:List D->Option D}{f:ay->R (List D)}
def aW(hc:eR X (.builtin id) (yP X.K g))(hg:Gl X x)(hm:X.mg x=none)(hv:Su x=some (.builtin id))(ha:XA X (e::es) f)(hn:x≠"__name__":=by decide)(hdb:(x==("__debug__":Str))=false:=by decide)(hns:(e::es).all noStar=true:=by rfl):XE X (.Call (.Name x p) (e::es) [] pos) (fL g f):=⟨TG.J4 hc hg hm hv ha.h hn hdb hns⟩
end
section
variable[bh]{X:Cx}{x:Str}{p pos:Pos}{e:Sz}{es:List Sz}{id T:String}{g:List D->Option D}{f:ay->R (List D)}
def bB(hc:eR X (.type T) (yP X.K g))(hg:Gl X x)(hm:X.mg x=none)(hv:Su x=some (.type T))(ha:XA X (e::es) f)(hn:x≠"__name__":=by decide)(hdb:(x==("__debug__":Str))=false:=by decide)(hns:(e::es).all noStar=true:=by rfl):XE X (.Call (.Name x p) (e::es) [] pos) (fL g f):=⟨TG.JB hc hg hm hv ha.h hn hdb hns⟩
end
section
variable[bh]{X:Cx}{x:Str}{p pos:Pos}{e:Sz}{es:List Sz}{id T:String}{g:List D->Option D}{f:ay->R (List D)}
def fI{f:FX}{xT:Str}{p2:Pos}(ok:yp X.K T)(hg:Gl X "isinstance")(hm:X.mg "isinstance"=none)(hgT:Gl X xT)(hmT:X.mg xT=none)(hvT:Su xT=some (.type T))(he:XE X e f)(hn2:xT≠"__name__":=by decide)(hd2:(xT==("__debug__":Str))=false:=by decide)(hns:noStar e=true:=by rfl):XE X (.Call (.Name "isinstance" p) [e,.Name xT p2] [] pos) (nh T f):=⟨TG.NQ ok hg hm hgT hmT hvT he.h hn2 hd2 hns⟩
end
section
variable[bh]{X:Cx}{a:Sz}{f:FX}{pos:Pos}
def fw(h:XE X a f)(he:∀whole,isTrue a X.env whole=(do let v<-whole;standAt a.pos;holding [v] (truthy v)):=by intro _;rfl):XT X a (iL f):=⟨TG.Kx h.h he⟩
end
section
variable[bh]{X:Cx}{tg:Sz}
def bJ{e:Sz}{f:FX}(h:XE X e f):XI X tg e (bi f):=⟨TG.ML h.h⟩
end
section
variable[bh]{X:Cx}{tg:Sz}
def iM{a:Sz}{f:ay->R (List D)}{p pos:Pos}(hg:Gl X "range")(hm:X.mg "range"=none)(ha:XA X [a] f)(hs:SA [a] X.env=[(false,eval a X.env)]:=by rfl):XI X tg (.Call (.Name "range" p) [a] [] pos) (iB f):=⟨TG.JA hg hm ha.h hs⟩
end
section
variable[bh]{X:Cx}{tg:Sz}
def Aq{a b:Sz}{f:ay->R (List D)}{p pos:Pos}(hg:Gl X "range")(hm:X.mg "range"=none)(ha:XA X [a,b] f)(hs:SA [a,b] X.env=[(false,eval a X.env),(false,eval b X.env)]:=by rfl)(hs2:SA [b] X.env=[(false,eval b X.env)]:=by rfl):XI X tg (.Call (.Name "range" p) [a,b] [] pos) (sf f):=⟨TG.JE hg hm ha.h hs hs2⟩
end
section
variable[bh]{X:Cx}{pos:Pos}
def aF{i:Nat}{x:Str}(hN:X.N.Nodup)(hi:X.N[i]?=some x)(hx:Loc X.env.scope x)(hf:X.fn x=true\/X.env.scope.names.lookup x=some .local:=by first|exact .inl rfl|exact .inr rfl|assumption):XG X (.Name x pos) (gN i):=⟨TG.Ly hN hi hx hf⟩
end
section
variable[bh]{X:Cx}{pos:Pos}
def dZ:Lp X [] ED:=⟨TG.L4 ⟩
end
section
variable[bh]{X:Cx}{pos:Pos}
def bF{e:Sz}{es:List Sz}{g:GF}{h:C4}(h1:XG X e g)(h2:Lp X es h)(hs:(assignEach (e::es) X.env).map (·.2)=assign e X.env::(assignEach es X.env).map (·.2):=by rfl):Lp X (e::es) (zG g h):=⟨TG.K6 h1.h h2.h hs⟩
end
section
variable[bh]{X:Cx}{pos:Pos}
def fM{es:List Sz}{k:Nat}{g:C4}{n:Nat}(hc:X.calm=true)(h:Lp X es g)(hn:(assignEach es X.env).length=n:=by rfl)(hst:(assignEach es X.env).findIdx? (·.1)=none:=by rfl):XG X (.Tuple es k pos) (gT n g):=⟨TG.MP hc h.h hn hst⟩
end
section
variable[bh]
def cn{X:Cx}:MY X [] cF:=⟨TG.Ls ⟩
end
section
variable[bh]
def e9{X:Cx}{c:Sz}{F:ay->R Bool}(h:XT X c F):MY X [c] F:=⟨TG.Lr h.h⟩
end
section
variable[bh]{X:Cx}{elt tg iter:Sz}{ifs:List Sz}{scope:Sx}{pos:Pos}{N:List Str}{ix:List (Option Nat)}{G:ay->R (List D)}{g:GF}{C:ay->R Bool}{Fe:FX}
def cR(hc:X.calm=true)(ok:jt X scope N ix)(tk:rT ix g)(hi:XI X tg iter G)(hb:DW X scope N tg elt ifs g C Fe)(hs:∀x,SN iter X.env x=pure x:=by intro _;rfl):XE X (.ListComp elt [⟨tg,iter,ifs,0⟩] scope pos) (gz ix G g C Fe):=⟨TG.N5 hc ok tk hi.h hb.h hs⟩
end
section
variable[bh]{X:Cx}{st:SD}{rest body:List SD}{pos:Pos}
def bc:Cj X [] cU:=⟨TG.Ln ⟩
end
section
variable[bh]{X:Cx}{st:SD}{rest body:List SD}{pos:Pos}
def ao{F1 F2:cK}(h1:XS X st F1)(h2:Cj X rest F2):Cj X (st::rest) (aG F1 F2):=⟨TG.Ld h1.h h2.h⟩
end
section
variable[bh]{X:Cx}{st:SD}{rest body:List SD}{pos:Pos}
def aC{F1:cK}(h1:XS X st F1):Cj X [st] F1:=⟨TG.LO h1.h⟩
end
section
variable[bh]{X:Cx}{st:SD}{rest body:List SD}{pos:Pos}
def aQ{e:Sz}{f:FX}(h:XE X e f):XS X (.Return (some e) pos) (bL f):=⟨TG.MF h.h⟩
end
section
variable[bh]{X:Cx}{st:SD}{rest body:List SD}{pos:Pos}
def cG{c:Sz}{a b:List SD}{tc:ay->R Bool}{A B:cK}(hc:XT X c tc)(ha:Cj X a A)(hb:Cj X b B):XS X (.If c a b pos) (lK tc A B):=⟨TG.NZ hc.h ha.h hb.h⟩
end
section
variable[bh]{X:Cx}{st:SD}{rest body:List SD}{pos:Pos}
def aB{i:Nat}{x:Str}{e:Sz}{f:FX}{pos':Pos}(hN:X.N.Nodup)(hi:X.N[i]?=some x)(hx:Loc X.env.scope x)(he:XE X e f)(hs:swapsWith e (some (.Name x pos')) pos.line X.env=pure false:=by rfl)(hf:X.fn x=true\/X.env.scope.names.lookup x=some .local:=by first|exact .inl rfl|exact .inr rfl|assumption):XS X (.Assign [.Name x pos'] e pos) (bg i f):=⟨TG.NT hN hi hx he.h hs hf⟩
end
section
variable[bh]{X:Cx}{st:SD}{rest body:List SD}{pos:Pos}
def qc{elt tg iter:Sz}{ifs:List Sz}{scope:Sx}{N:List Str}{ix:List (Option Nat)}{G:ay->R (List D)}{g:GF}{C:ay->R Bool}{Fe:FX}{i:Nat}{y:Str}{lpos py spos:Pos}(hN:X.N.Nodup)(hi':X.N[i]?=some y)(hx:Loc X.env.scope y)(hc:X.calm=true)(ok:jt X scope N ix)(tk:rT ix g)(hi:XI X tg iter G)(hb:DW X scope N tg elt ifs g C Fe)(hsw:swapsWith (.ListComp elt [⟨tg,iter,ifs,0⟩] scope lpos) (some (.Name y py)) spos.line X.env=pure true:=by rfl)(hs:∀x,SN iter X.env x=pure x:=by intro _;rfl)(hf:X.fn y=true\/X.env.scope.names.lookup y=some .local:=by first|exact .inl rfl|exact .inr rfl|assumption):XS X (.Assign [.Name y py] (.ListComp elt [⟨tg,iter,ifs,0⟩] scope lpos) spos) (bg i (gz ix G g C Fe)):=⟨TG.N1 hN hi' hx hc ok tk hi.h hb.h hsw hs hf⟩
end
section
variable[bh]{X:Cx}{st:SD}{rest body:List SD}{pos:Pos}
def Be{tg e:Sz}{f:FX}{g:GF}(he:XE X e f)(hg:XG X tg g)(hs:swapsWithSole [tg] e pos.line X.env=pure false:=by rfl)(hw:swappedStores [tg] e X.env=pure none:=by rfl)(h1:(assignEach [tg] X.env).map (·.2)=[assign tg X.env]:=by rfl):XS X (.Assign [tg] e pos) (D3 f g):=⟨TG.Nf he.h hg.h hs hw h1⟩
end
section
variable[bh]{X:Cx}{st:SD}{rest body:List SD}{pos:Pos}
def sZ:XS X st yJ:=⟨TG.Lv ⟩
end
section
variable[bh]{X:Cx}{st:SD}{rest body:List SD}{pos:Pos}
def cA{st:List SD}{F:cK}(is:List Nat)(h:Cj X st F):Cj X st (eD is F):=⟨TG.Kf is h.h⟩
end
section
variable[bh]{X:Cx}{st:SD}{rest body:List SD}{pos:Pos}
def fQ{tg iter:Sz}{G:ay->R (List D)}{g:GF}{B:cK}(hp:SM (model X.prog X.w) X.A X.env X.xe)(hc:X.calm=true)(hi:XI X tg iter G)(hg:XG X tg g)(hb:Cj X body B)(hs:∀x,SN iter X.env x=pure x:=by intro _;rfl):XS X (.For tg iter body [] pos) (ku G g B):=⟨TG.MM hp hc hi.h hg.h hb.h hs⟩
end
section
variable[bh]{X:Cx}{pos:Pos}
def jx{es:List Sz}{g:ay->R (List D)}(h:XA X es g):XN X (.List es pos) (gE g):=⟨TG.M4 h.h⟩
end
section
variable[bh]{X:Cx}{pos:Pos}
def nY:XN X (.Dict [] [] pos) uh:=⟨TG.JF ⟩
end
section
variable[bh]{X:Cx}{pos:Pos}
def fP{i:Nat}{x:Str}{e:Sz}{f:FX}{pos':Pos}(hN:X.N.Nodup)(hi:X.N[i]?=some x)(hx:Loc X.env.scope x)(he:XN X e f)(hs:swapsWith e (some (.Name x pos')) pos.line X.env=pure false:=by rfl)(hf:X.fn x=true\/X.env.scope.names.lookup x=some .local:=by first|exact .inl rfl|exact .inr rfl|assumption):XS X (.Assign [.Name x pos'] e pos) (jU i f):=⟨TG.MQ hN hi hx he.h hs hf⟩
end
section
variable[bh]
def Ct{X:Cx}{elt tg iter:Sz}{ifs:List Sz}{scope:Sx}{N:List Str}{ix:List (Option Nat)}{G:ay->R (List D)}{g:GF}{C:ay->R Bool}{Fe:FX}{i:Nat}{y:Str}{lpos py spos:Pos}(hN:X.N.Nodup)(hi':X.N[i]?=some y)(hx:Loc X.env.scope y)(hc:X.calm=true)(ok:jt X scope N ix)(tk:rT ix g)(hi:XI X tg iter G)(hb:DW X scope N tg elt ifs g C Fe)(hsw:swapsWith (.ListComp elt [⟨tg,iter,ifs,0⟩] scope lpos) (some (.Name y py)) spos.line X.env=pure true:=by rfl)(hs:∀x,SN iter X.env x=pure x:=by intro _;rfl)(hf:X.fn y=true\/X.env.scope.names.lookup y=some .local:=by first|exact .inl rfl|exact .inr rfl|assumption):XS X (.Assign [.Name y py] (.ListComp elt [⟨tg,iter,ifs,0⟩] scope lpos) spos) (jU i (gz ix G g C Fe)):=⟨TG.JL hN hi' hx hc ok tk hi.h hb.h hsw hs hf⟩
end
section
variable[bh]
def Ef{X:Cx}{elt tg iter:Sz}{ifs:List Sz}{scope:Sx}{pos:Pos}{N:List Str}{ix:List (Option Nat)}{G:ay->R (List D)}{g:GF}{C:ay->R Bool}{Fe:FX}(hc:X.calm=true)(ok:jt X scope N ix)(tk:rT ix g)(hi:XI X tg iter G)(hb:DW X scope N tg elt ifs g C Fe)(hs:∀x,SN iter X.env x=pure x:=by intro _;rfl):XN X (.ListComp elt [⟨tg,iter,ifs,0⟩] scope pos) (gz ix G g C Fe):=⟨TG.N8 hc ok tk hi.h hb.h hs⟩
end
section
variable[bh]
def kz{X : Cx}{i : Nat}{x m : Str}{id : String}{r : V -> List V -> Hp -> VK -> Prop}{u : List D -> List D -> Option (List D)}{e : Sz}{es : List Sz}{f : ay -> R (List D)}{npos apos cpos pos : Pos}(slot : Slot "list" m id)(hty : typeOf (.builtin id) = pure (.type "method_descriptor"))(hm : L1 X id r)(ok : E8 X.K r u)(hx : XV X (.Name x npos) i)(he : XA X (e :: es) f)(hbase : Tt (.Name x npos) m X.env (eval (.Name x npos) X.env) = eval (.Name x npos) X.env := by rfl)(hfew : ((backTo cpos (SA (e :: es) X.env)).all (fun x => !x.1) && (backToKw cpos (S4 [] X.env)).all (fun x => x.1.isSome)
      && decide ((e::es:List Sz).length+([]:List Tu).length+(if([]:List Tu).isEmpty then 0 else 1)<30))=true:=by rfl)(hline:(apos.endLine==cpos.line)=true:=by rfl)(hs:SA (e::es) X.env=(false,eval e X.env)::SA es X.env:=by rfl)(hplain:(backTo cpos (SA es X.env)).any (·.1)=false:=by rfl)(hsw:swapsWith (.Call (.Attribute (.Name x npos) m apos) (e::es) [] cpos) none pos.line X.env=pure false:=by rfl):XS X (.Expr (.Call (.Attribute (.Name x npos) m apos) (e::es) [] cpos) pos) (yA i u f):=⟨TG.N6 slot hty hm ok hx.h he.h hbase hfew hline hs hplain hsw⟩
end
section
variable[bh]
def d7{X:Cx}{st:List SD}{F:cK}(i:Nat)(h:Cj X st F):Cj X st (fY i F):=⟨TG.Lw i h.h⟩
end
section
variable[bh]
def yj{X:Cx}{e:Sz}{f:ay->R Bool}(is:List Nat)(h:XT X e f):XT X e (nH is f):=⟨TG.L6 is h.h⟩
end
section
variable[bh]
def ax{X:Cx}{k k':Nat}{ps:List Str}{g:List D->R D}{h:ay->R (List D)}{x:Str}{p pos:Pos}{e:Sz}{es:List Sz}(C:Callee X.prog X.w X.K X.mg X.base k x ps g)(hn:Ar ps.length g)(hr:gP k' X.A)(hk:k<=k')(ha:XA X (e::es) h)(hg:Gl X x:=by rfl)(hdb:(x==("__debug__":Str))=false:=by decide)(hns:(e::es).all noStar=true:=by rfl):XE X (.Call (.Name x p) (e::es) [] pos) (fR g h):=⟨TG.JD C hn hr hk ha.h hg hdb hns⟩
end
section
variable[bh]{X:Cx}{a b c:Sz}{fa fb fc:FX}{pos:Pos}
def Cm{op op':SW}{r r':R2}{g g':D->D->Option D}(ho:kA X (SV op) r)(s:dE X.K r g)(ho':kA X (SV op') r')(s':dE X.K r' g')(ha:XE X a fa)(hb:XE X b fb)(hc:XE X c fc)(hm:lastMarks [op,op'] [b,c]=false:=by with_unfolding_all rfl):XE X (.Compare a [op,op'] [b,c] pos) (sP g g' fa fb fc):=⟨TG.Kb ho s ho' s' ha.h hb.h hc.h hm⟩
end
section
variable[bh]{X:Cx}{a b c:Sz}{fa fb fc:FX}{pos:Pos}
def rZ(ha:XE X a fa):XE X (.UnaryOp .USub a pos) (uQ fa):=⟨TG.Mb ha.h⟩
end
section
variable[bh]{X:Cx}
def nJ{a b:Sz}{es:List Sz}{k:Nat}{tpos:Pos}{f:ay->R (List D)}{p pos:Pos}(hg:Gl X "zip")(hm:X.mg "zip"=none)(ha:XA X [a,b] f)(hs:SA [a,b] X.env=(false,eval a X.env)::SA [b] X.env:=by rfl)(hpl:(backTo pos (SA [b] X.env)).any (·.1)=false:=by rfl):XI X (.Tuple es k tpos) (.Call (.Name "zip" p) [a,b] [] pos) (sR f):=⟨TG.M3 hg hm ha.h hs hpl⟩
end
section
variable[bh]{X:Cx}
def oP{a:Sz}{es:List Sz}{k:Nat}{tpos:Pos}{f:ay->R (List D)}{p pos:Pos}(hg:Gl X "enumerate")(hm:X.mg "enumerate"=none)(ha:XA X [a] f)(hs:SA [a] X.env=(false,eval a X.env)::SA [] X.env:=by rfl)(hpl:(backTo pos (SA [] X.env)).any (·.1)=false:=by rfl):XI X (.Tuple es k tpos) (.Call (.Name "enumerate" p) [a] [] pos) (iQ f):=⟨TG.Gs hg hm ha.h hs hpl⟩
end
section
variable[bh]{X:Cx}{a o e:Sz}{es:List Sz}{fa fo:FX}{fas:ay->R (List D)}{f m x:Str}{cs:List Str}{pos apos p:Pos}{k k':Nat}{ps:List Str}
def kX{tbl : List (Str × (List D -> R D))}{pl : Sem Bool}(tb : oM X.prog X.w X.K X.mg X.base k m ps tbl)(hr : gP k' X.A)(hk : k <= k')(ho : XE X o fo)(ha : XA X (e :: es) fas)(hns : (e :: es).all noStar = true := by rfl)(ht : eval (.Call (.Attribute o m apos) (e :: es) [] pos) X.env = (do
      let ov<-eval o X.env
      standAt apos.atName
      let (f,first)<-holding [ov] (getMethod ov m pl)
      S3 pos f first (backTo pos (SA (e::es) X.env)) (backToKw pos (S4 [] X.env))):=by rfl):XE X (.Call (.Attribute o m apos) (e::es) [] pos) (dN m tbl fo fas):=⟨TG.LC tb hr hk ho.h ha.h hns ht⟩
end
section
variable[bh]{X:Cx}{a o e:Sz}{es:List Sz}{fa fo:FX}{fas:ay->R (List D)}{f m x:Str}{cs:List Str}{pos apos p:Pos}{k k':Nat}{ps:List Str}
def Fm{c:Str}{fs:List Str}(IA:uw X.prog X.w X.K X.mg X.base k c ps fs)(hr:gP k' X.A)(hk:k+1<=k')(hg:Gl X c)(ha:XA X (e::es) fas)(hdb:(c==("__debug__":Str))=false:=by decide)(hns:(e::es).all noStar=true:=by rfl):XE X (.Call (.Name c p) (e::es) [] pos) (fNew c fs fas):=⟨TG.Mg IA hr hk hg ha.h hdb hns⟩
end
section
variable[bh]{X:Cx}{C:Si}{pins:List (Si×Obj)}{σ:St}{H:Hp}{s:Sw}{Q:VK}
def D5{c:Str}{p pos:Pos}(NA:A0 X.K X.mg c)(hg:Gl X c)(hdb:(c==("__debug__":Str))=false:=by decide):XE X (.Call (.Name c p) [] [] pos) (fC (.obj c [] [])):=⟨TG.LI NA hg hdb⟩
end
section
variable[bh]
def yH{X:Cx}{i:Nat}{x:Str}{idx value:Sz}{fk fv:FX}{npos tpos pos:Pos}(hu:X.A.units+64<S6)(hx:XV X (.Name x npos) i)(hi:XE X idx fk)(hv:XE X value fv)(hs:swapsWith value (some (.Subscript (.Name x npos) idx tpos)) pos.line X.env=pure false:=by rfl):XS X (.Assign [.Subscript (.Name x npos) idx tpos] value pos) (uy i fk fv):=⟨TG.L9 hu hx.h hi.h hv.h hs⟩
end
section
variable[bh]{X:Cx}{pins:List (Si×Obj)}{s:Sw}{σ:L2.St}{H:Hp}{O:List Si}
def Cq{f:FX}{j:Nat}{k:Nat}{c P cc:Si}{e:Sz}{p lpos kp pos np mp p2 spos:Pos}{row many:Str}{params:Te}{scope:Sx}(hr:gP k X.A)(hg:Gl X "sorted")(hm:X.mg "sorted"=none)(B:Bw X.mg X.base c P)(hcode:X.env.code=.ref c)(hT:∀H,bh.tab H->H P=some (.ext (pR P lpos (X.env.qual++"<lambda>"))))(he:XE X e f)(hN:X.N[j]?=some many)(hkm:X.env.kindOf many=some .cell)(hv:Ig X.env.scope many)(hcc:X.env.cells.lookup many=some cc)(hcl:closureFor scope X.env=pure [(many,cc)])(hdef:defaultsOf params X.env=([],[]))(hbind:∀cdv ctv v,bindArgs (RB "<lambda>" (X.env.qual++"<lambda>") params (cutE row many np mp p2 spos) scope [(many,cc)] ((X.mg "__name__").getD .none) cdv ctv) ⟨[v],[]⟩=pure [(row,v)])(hco:scope.isCoroutine=false)(hgen:scope.isGenerator=false)(hk:scope.kind=.function)(hno:∀x∈scope.names,x.2≠.cell)(hlr:scope.names.lookup row=some .local)(hlm:scope.names.lookup many=some .free)(d1:(row==("__debug__":Str))=false)(d2:(many==("__debug__":Str))=false)(d3:(many==("__classdict__":Str))=false)(hns:noStar e=true:=by rfl):XE X (.Call (.Name "sorted" p) [e] [⟨some "key",.Lambda params (cutE row many np mp p2 spos) scope lpos,kp⟩] pos) (f2 qe f (ah j)):=⟨TG.Kr hr hg hm B hcode hT he.h hN hkm hv hcc hcl hdef hbind hco hgen hk hno hlr hlm d1 d2 d3 hns⟩
end
section
variable[bh]
def t7{X:Cx}{i:Nat}{x:Str}{idx value:Sz}{fk fv:FX}{npos tpos pos:Pos}(hu:X.A.units+64<S6)(hx:XV X (.Name x npos) i)(hi:XE X idx fk)(hv:XE X value fv)(hs:swapsWith value (some (.Subscript (.Name x npos) idx tpos)) pos.line X.env=pure false:=by rfl):XS X (.Assign [.Subscript (.Name x npos) idx tpos] value pos) (oK i fk fv):=⟨TG.Lq hu hx.h hi.h hv.h hs⟩
end
section
variable[bh]{X:Cx}
def Fw{o e:Sz}{fo fk:FX}{pos:Pos}(hu:X.A.units+64<S6)(ho:XE X o fo)(hi:XE X e fk)(hs:Fx e):XE X (.Subscript o e pos) (f2 zv fo fk):=⟨TG.Nn hu ho.h hi.h hs⟩
end
section
variable[bh]
def Gv{X:Cx}{i:Nat}{x:Str}{e:Sz}{f:FX}{npos apos cpos pos:Pos}(hx:XV X (.Name x npos) i)(he:XN X e f)(hns:noStar e=true:=by rfl)(hbase:Tt (.Name x npos) "extend" X.env (eval (.Name x npos) X.env)=eval (.Name x npos) X.env:=by rfl)(hfew:((backTo cpos (SA [e] X.env)).all (λx=>!x.1)&&(backToKw cpos (S4 [] X.env)).all (λx=>x.1.isSome)&&decide (([e]:List Sz).length+([]:List Tu).length+(if([]:List Tu).isEmpty then 0 else 1)<30))=true:=by rfl)(hline:(apos.endLine==cpos.line)=true:=by rfl)(hplain:(backTo cpos (SA [] X.env)).any (·.1)=false:=by rfl)(hsw:swapsWith (.Call (.Attribute (.Name x npos) "extend" apos) [e] [] cpos) none pos.line X.env=pure false:=by rfl):XS X (.Expr (.Call (.Attribute (.Name x npos) "extend" apos) [e] [] cpos) pos) (CD i f):=⟨TG.NS hx.h he.h hns hbase hfew hline hplain hsw⟩
end
abbrev Lk(K:Q7)(f:Si)(nm qual:Str)(st:SD)(oc:Se)(od:Option Si)(kV dc pm:Se)(an:Option Si)(cd ct:Se)(sl:Array (Option Se)):Prop:=K.lookup f=some ⟨oc,od,.func (Ru nm qual (nS st) (gr st) (aA st) .none kV dc pm an cd ct),sl⟩
structure cJ(P:Sg)(w:Sf)(K:Q7)(mg:Str->Option Se)(base:Sl)(k:Nat)(N:List Str)(qual:Str)(st:SD)(f:Si)(B:cK):Prop where
 h:∀(cdv:Se)(A:Sv)(outer:List Env)(s:Sw)(H:Hp)(E:XK),gP k (A.deeper (RW qual (aA st) s.heap.objs.size f cdv))->SM (model P w) (A.deeper (RW qual (aA st) s.heap.objs.size f cdv)) (RW qual (aA st) s.heap.objs.size f cdv) (kC (oN P w) P w K mg base N qual (aA st) f cdv A outer s H E).xe->
  Cj (kC (oN P w) P w K mg base N qual (aA st) f cdv A outer s H E) (gr st) B
structure Fd(P:Sg)(w:Sf)(K:Q7)(mg:Str->Option Se)(base:Sl)(k:Nat)(N:List Str)(qual:Str)(st:SD)(f:Si)(B:cK):Prop where
 h:∀(cdv:Se)(A:Sv)(outer:List Env)(s:Sw)(H:Hp)(E:XK),vK K f cdv->gP k (A.deeper (RW qual (aA st) s.heap.objs.size f cdv))->SM (model P w) (A.deeper (RW qual (aA st) s.heap.objs.size f cdv)) (RW qual (aA st) s.heap.objs.size f cdv) (kC (oN P w) P w K mg base N qual (aA st) f cdv A outer s H E).xe->
  Cj (kC (oN P w) P w K mg base N qual (aA st) f cdv A outer s H E) (gr st) B
def Fd.ok{P:Sg}{w:Sf}{K:Q7}{mg:Str->Option Se}{base:Sl}{k:Nat}{N:List Str}{qual:Str}{st:SD}{f:Si}{B:cK}(h:Fd P w K mg base k N qual st f B):xo P w K mg base k N qual st f B:=⟨λcdv A outer s H E hc hr hp=>(h.h cdv A outer s H E hc hr hp).h⟩
def cJ.ok{P:Sg}{w:Sf}{K:Q7}{mg:Str->Option Se}{base:Sl}{k:Nat}{N:List Str}{qual:Str}{st:SD}{f:Si}{B:cK}(h:cJ P w K mg base k N qual st f B):BodyOk P w K mg base k N qual st f B:=⟨λcdv A outer s H E hr hp=>(h.h cdv A outer s H E hr hp).h⟩
end TX
namespace TG
open L2
instance(priority:=low) noTabs:bh:=⟨λ_=>True,λ_ _=>trivial,λ_ _ _=>trivial⟩
open PySem PySem.Spec L2
def nr{α:Sort _}{a b:α}(h:a=b):a=b:=h
def fj{α β:Type}(a:α)(f:α->R β):Except.bind (Except.ok a:R α) f=f a:=nr rfl
def v7{α β:Type}(x:Option Ex)(f:α->R β):Except.bind (Except.error x:R α) f=.error x:=nr rfl
def sM{α:Type}(a:α)(k:Ks)(ρ:ay)(f:α->R D):su (.ok a) k ρ f=f a:=nr rfl
def vo{α:Type}(x:Ex)(k:Ks)(ρ:ay)(f:α->R D):su (.error (some x)) k ρ f=k.ex x ρ:=nr rfl
def mD{α:Type}(a:α):FV (.ok a:R α)=.ok a:=nr rfl
def iZ{α:Type}(a:α):rO (some a)=.ok a:=nr rfl
def ge_0(d:D)(ρ:ay):uC (some (.val d)::ρ) 0=.ok d:=nr rfl
def B8(x:Option S)(ρ:ay)(i:Nat):uC (x::ρ) (i+1)=uC ρ i:=by
 unfold uC;rw[Qj]
def qQ(i:Nat)(ρ:ay):ah i ρ=uC ρ i:=nr rfl
def Cz(d:D)(ρ:ay):fC d ρ=.ok d:=nr rfl
def qo(ρ:ay):aq ρ=.ok []:=nr rfl
def oB(f:FX)(g:ay->R (List D))(ρ:ay):af f g ρ=(f ρ).bind λx=>(g ρ).bind λxs=>.ok (x::xs):=nr rfl
def qZ(g:ay->R (List D))(ρ:ay):aL g ρ=(g ρ).bind λxs=>rO (vC xs):=nr rfl
def qm(g:ay->R (List D))(ρ:ay):gE g ρ=(g ρ).bind λxs=>rO (nc xs):=nr rfl
def Cw(g:D->Option D)(f:FX)(ρ:ay):f1 g f ρ=(f ρ).bind λa=>rO (g a):=nr rfl
def BI(g:D->D->Option D)(f h:FX)(ρ:ay):f2 g f h ρ=(f ρ).bind λa=>(h ρ).bind λb=>rO (g a b):=nr rfl
def B6(f:FX)(ρ:ay):fB f ρ=(f ρ).bind λd=>rO (Mm d):=nr rfl
def BQ(g:List D->Option D)(f:ay->R (List D))(ρ:ay):fL g f ρ=(f ρ).bind λds=>rO (g ds):=nr rfl
def BJ(g:List D->R D)(f:ay->R (List D))(ρ:ay):fR g f ρ=(f ρ).bind g:=nr rfl
def qA(f:ay->R Bool)(ρ:ay):yZ f ρ=(f ρ).bind λb=>.ok (!b):=nr rfl
def qf(f g:ay->R Bool)(ρ:ay):MN f g ρ=(f ρ).bind λb=>if b then g ρ else .ok false:=nr rfl
def vY(f g:ay->R Bool)(ρ:ay):FQ f g ρ=(f ρ).bind λb=>if b then .ok true else g ρ:=nr rfl
def kN(f:FX)(ρ:ay):iL f ρ=(f ρ).bind λd=>rO (truth d):=nr rfl
def ox(f g:FX)(ρ:ay):iz f g ρ=(f ρ).bind λd=>zV d (g ρ):=nr rfl
def qB(f g:FX)(ρ:ay):FP f g ρ=(f ρ).bind λd=>KO d (g ρ):=nr rfl
def oj(f:FX)(ρ:ay):ye f ρ=(f ρ).bind λa=>rO (Ad a):=nr rfl
def wa(t:ay->R Bool)(f g:FX)(ρ:ay):K3 t f g ρ=(t ρ).bind λc=>if c then f ρ else g ρ:=nr rfl
def rg(T:String)(f:FX)(ρ:ay):nh T f ρ=(f ρ).bind λa=>rO (mM T a):=nr rfl
def qy(f:FX)(ρ:ay):M0 f ρ=(f ρ).bind λa=>.ok (.bl (isNon a)):=nr rfl
def ou(f:FX)(ρ:ay):JM f ρ=(f ρ).bind λa=>.ok (.bl (!isNon a)):=nr rfl
def qS(f:FX)(ρ:ay):uQ f ρ=(f ρ).bind λa=>rO (Jk a):=nr rfl
def lw(f:FX)(ρ:ay):IL f ρ=(f ρ).bind λa=>rO (DK a):=nr rfl
def qP(f:FX)(ρ:ay):Nr f ρ=(f ρ).bind λa=>rO (Iw a):=nr rfl
def lE(g g':D->D->Option D)(fa fb fc:FX)(ρ:ay):sP g g' fa fb fc ρ=(fa ρ).bind λx=>(fb ρ).bind λy=>(rO (g x y)).bind λz=>zV z ((fc ρ).bind λw=>rO (g' y w)):=nr rfl
def kR(f:FX)(ρ:ay):bi f ρ=(f ρ).bind λd=>rO (sN d):=nr rfl
def jD(f:ay->R (List D))(ρ:ay):iB f ρ=(f ρ).bind λds=>rO (om ds):=nr rfl
def jC(f:ay->R (List D))(ρ:ay):sf f ρ=(f ρ).bind λds=>rO (sG ds):=nr rfl
def qU(f:ay->R (List D))(ρ:ay):sR f ρ=(f ρ).bind λds=>rO (uT ds):=nr rfl
def nO(f:ay->R (List D))(ρ:ay):iQ f ρ=(f ρ).bind λds=>rO (v9 ds):=nr rfl
def qW(z:Str):Ox (.str z)=some z:=nr rfl
def jH(ρ:ay):bz ρ=.ok none:=nr rfl
def n5(f:FX)(ρ:ay):cC f ρ=(f ρ).bind λd=>rO (Aa d):=nr rfl
def kZ(f:FX)(l h:ay->R (Option Int))(ρ:ay):bM f l h ρ=(f ρ).bind λa=>(l ρ).bind λlo=>(h ρ).bind λhi=>rO (uc a lo hi):=nr rfl
def oA(ρ:ay):cF ρ=.ok true:=nr rfl
def oz(k:Ks)(ρ:ay):cU k ρ=k.nx ρ:=nr rfl
def js(A B:cK)(k:Ks)(ρ:ay):aG A B k ρ=A {k with nx:=B k} ρ:=nr rfl
def nX(f:FX)(k:Ks)(ρ:ay):bL f k ρ=su (f ρ) k ρ .ok:=nr rfl
def lI(k:Ks)(ρ:ay):Kg k ρ=.ok .non:=nr rfl
def oT(c:ay->R Bool)(A B:cK)(k:Ks)(ρ:ay):lK c A B k ρ=su (c ρ) k ρ λb=>if b then A k ρ else B k ρ:=nr rfl
def ow(i:Nat)(f:FX)(k:Ks)(ρ:ay):bg i f k ρ=su (f ρ) k ρ λd=>k.nx (setV i d ρ):=nr rfl
def lJ(is:List Nat)(F:cK)(k:Ks)(ρ:ay):eD is F k ρ=F k (kill is ρ):=nr rfl
def jY(G:ay->R (List D))(g:GF)(B:cK)(k:Ks)(ρ:ay):ku G g B k ρ=su (G ρ) k ρ λds=>mH g B k ds ρ:=nr rfl
def BH(d:D)(x:Option S)(ρ:ay):setV 0 d (x::ρ)=some (.val d)::ρ:=nr rfl
def CM(i:Nat)(d:D)(x:Option S)(ρ:ay):setV (i+1) d (x::ρ)=x::setV i d ρ:=nr rfl
def rd(ρ:ay):kill [] ρ=ρ:=nr rfl
def n6(i:Nat)(is:List Nat)(ρ:ay):kill (i::is) ρ=kill is (ρ.set i none):=nr rfl
def mQ(B:cK)(n:Nat)(a:D):aN B 1 n [a]=B K0 (env0 n [a]):=nr rfl
def eW(B:cK)(n:Nat)(a b:D):aN B 2 n [a,b]=B K0 (env0 n [a,b]):=nr rfl
def mq(B:cK)(n:Nat)(a b c:D):aN B 3 n [a,b,c]=B K0 (env0 n [a,b,c]):=nr rfl
def tL(B:cK)(n:Nat)(a b c d:D):aN B 4 n [a,b,c,d]=B K0 (env0 n [a,b,c,d]):=nr rfl
def qO(ρ:ay):inB [] ρ=[]:=nr rfl
def nM(ix:List (Option Nat))(ρ:ay):inB (none::ix) ρ=none::inB ix ρ:=nr rfl
def pick(ρ:ay)(i:Nat):Option S:=match ρ[i]? with
 |some (some (.val d))=>some (.val d)
 |_=>none
def oy(i:Nat)(ix:List (Option Nat))(ρ:ay):inB (some i::ix) ρ=pick ρ i::inB ix ρ:=nr rfl
theorem Bx(d:D)(ρ:ay):pick (some (.val d)::ρ) 0=some (.val d):=rfl
def CW(x:Option S)(ρ:ay)(i:Nat):pick (x::ρ) (i+1)=pick ρ i:=by
 unfold pick;rw[Qj]
def oo(i:Nat)(f:FX)(k:Ks)(ρ:ay):jU i f k ρ=su (f ρ) k ρ λd=>k.nx (ρ.set i (some (.own d))):=nr rfl
def nK(i:Nat)(F:cK)(k:Ks)(ρ:ay):fY i F k ρ=F k (frz i ρ):=nr rfl
def CA(d:D)(ρ:ay):frz 0 (some (.own d)::ρ)=some (.val d)::ρ:=nr rfl
def vU(d:D)(ρ:ay):frz 0 (some (.val d)::ρ)=some (.val d)::ρ:=nr rfl
def BR(i:Nat)(x:Option S)(ρ:ay):frz (i+1) (x::ρ)=x::frz i ρ:=by
 unfold frz;rw[Qj];split<;>rename_i h
 ·rw[h];rfl
 ·rfl
def kD(i:Nat)(u:List D->List D->Option (List D))(f:ay->R (List D))(k:Ks)(ρ:ay){xs:List D}(h:ρ[i]?=some (some (.own (.lst xs)))):yA i u f k ρ=su (f ρ) k ρ λds=>(rO (u xs ds)).bind λys=>k.nx (ρ.set i (some (.own (.lst ys)))):=by
 unfold yA;rw[h]
def ky{xs:List D}{y:D}(h:xs.length<100000):gh xs [y]=some (xs++[y]):=by
 show(if small (xs.length+1)then some (xs++[y])else none)=_;rw[fg ‹0›];rfl
def qp(i j:Int):bS (.int i) (.int j)=some (.int (i+j)):=nr rfl
def qT(i j:Int):TG.w8 (.int i) (.int j)=some (.int (i-j)):=nr rfl
def vy(i j:Int):Ol (.int i) (.int j)=some (.bl (decide (i<j))):=nr rfl
def qI(i j:Int):ve (.int i) (.int j)=some (.bl (decide (i<j))):=nr rfl
def ra(x y:Str):ve (.str x) (.str y)=some (.bl (decide (x.cps.toList<y.cps.toList))):=nr rfl
def qC(c d:Bool):Nu (.bl c) (.bl d)=some (.bl (c==d)):=nr rfl
def jE(c d:Bool):GD (.bl c) (.bl d)=some (.bl (!(c==d))):=nr rfl
def vM(i j:Int):L5 (.int i) (.int j)=some (.bl (decide (i<=j))):=nr rfl
def vg(i j:Int):NX (.int i) (.int j)=some (.bl (decide (j<i))):=nr rfl
def vN(i j:Int):Oo (.int i) (.int j)=some (.bl (decide (j<=i))):=nr rfl
def qu(i:Int):Jk (.int i)=some (.int (-i)):=nr rfl
def gb{i j:Int}(h:0<j):cB (.int i) (.int j)=some (.int (i%j)):=by
 show(if decide (0<j)then some (D.int (i%j))else none)=_;rw[decide_eq_true h];rfl
def mU{i j:Int}(h:0<j)(h':j<10^200):dg (.int i) (.int j)=some (.int (i/j)):=by
 show(if decide (0<j/\j<10^200)then some (D.int (i/j))else none)=_;rw[decide_eq_true ⟨h,h'⟩];rfl
def sB{i j:Int}(h:-(2^64)<i)(h':i<2^64):oI (.int i) (.int j)=some (.int (i*j)):=by
 show(if decide ((-(2^64)<i/\i<2^64)\/(-(2^64)<j/\j<2^64))then some (D.int (i*j))else none)=_;rw[decide_eq_true (.inl ⟨h,h'⟩)];rfl
def nZ{i j:Int}(h:-(2^64)<j)(h':j<2^64):oI (.int i) (.int j)=some (.int (i*j)):=by
 show(if decide ((-(2^64)<i/\i<2^64)\/(-(2^64)<j/\j<2^64))then some (D.int (i*j))else none)=_;rw[decide_eq_true (.inr ⟨h,h'⟩)];rfl
def xq(i:Int)(n:Nat)(h:n<=1000000)(h':i.natAbs<2^64):lj (.int i) (.int n)=some (.int (i^n)):=by
 show(if decide (0<=(n:Int)/\(n:Int)<=1000000/\i.natAbs<2^64)then some (D.int (i^(n:Int).toNat))else none)=_;rw[decide_eq_true ⟨by omega,by omega,h'⟩];rfl
def Dj:lj (.int 10) (.int 59)=some (.int (10^59)):=xq 10 59 (by decide) (by decide)
def Cv:Int:=10^59
def Oe:Int:=10^60
def Hj:1000000<Cv/\Cv*10=Oe:=by decide +kernel
def zS:lj (.int 10) (.int 59)=some (.int Cv):=Dj
def lB(i j:Int):kH (.int i) (.int j)=some (.bl (i==j)):=by unfold kH pyEq;rfl
def kJ(i j:Str):kH (.str i) (.str j)=some (.bl (i==j)):=by unfold kH pyEq;rfl
def lH(i j:Bool):kH (.bl i) (.bl j)=some (.bl (i==j)):=by unfold kH pyEq;rfl
def lg(i j:Int):zm (.int i) (.int j)=some (.bl (!(i==j))):=by unfold zm pyEq;rfl
def lF(i j:Str):zm (.str i) (.str j)=some (.bl (!(i==j))):=by unfold zm pyEq;rfl
def lD(i j:Bool):zm (.bl i) (.bl j)=some (.bl (!(i==j))):=by unfold zm pyEq;rfl
def Jc{α:Type}(xs:List α)(n:Nat):o8 xs (n:Int)=xs[n]?:=by
 unfold o8 Fk;rw[if_pos ‹0›];by_cases h:n<xs.length
 ·rw[if_pos ‹0›];rfl
 ·rw[if_neg ‹0›,QI ‹0›];rfl
def CC{α:Type}(a:α)(xs:List α):o8 (a::xs) 0=some a:=Jc (a::xs) 0
def BA{α:Type}(a:α)(xs:List α)(n:Nat):o8 (a::xs) ((n+1:Nat):Int)=o8 xs (n:Int):=by
 rw[Jc,Jc,Qj]
def JP(xs:List D)(i:Int):aD (.tup xs) (.int i)=o8 xs i:=nr rfl
def Ja(xs:List D)(i:Int):aD (.lst xs) (.int i)=o8 xs i:=nr rfl
def pY(a:D)(xs:List D):aD (.tup (a::xs)) (.int 0)=some a:=CC a xs
def vh(a b:D)(xs:List D):aD (.tup (a::b::xs)) (.int 1)=some b:=(BA a _ 0).trans (CC b xs)
def vQ(a b c:D)(xs:List D):aD (.tup (a::b::c::xs)) (.int 2)=some c:=(BA a _ 1).trans ((BA b _ 0).trans (CC c xs))
def vi(a:D)(xs:List D):aD (.lst (a::xs)) (.int 0)=some a:=CC a xs
def vS(a b:D)(xs:List D):aD (.lst (a::b::xs)) (.int 1)=some b:=(BA a _ 0).trans (CC b xs)
def vA(a b c:D)(xs:List D):aD (.lst (a::b::c::xs)) (.int 2)=some c:=(BA a _ 1).trans ((BA b _ 0).trans (CC c xs))
def lm(xs:List D):gD [.lst xs]=some (.int xs.length):=nr rfl
def kM(xs:List D):gD [.tup xs]=some (.int xs.length):=nr rfl
def iS(xs:List D):cu [.lst xs]=some (.tup xs):=nr rfl
def iY(xs:List D):cu [.tup xs]=some (.tup xs):=nr rfl
def qt(b:Bool):Mm (.bl b)=some b:=nr rfl
def jF(i:Int):Aa (.int i)=some (some i):=nr rfl
def iN(b:Bool):truth (.bl b)=some b:=nr rfl
def iU(xs:List D):truth (.tup xs)=some (!xs.isEmpty):=nr rfl
def iO(xs:List D):truth (.lst xs)=some (!xs.isEmpty):=nr rfl
def my(i j:Int):pB [.int i,.int j]=some (.int (if j>i then j else i)):=nr rfl
def mr(i j:Int):oS [.int i,.int j]=some (.int (if j<i then j else i)):=nr rfl
def DP(b:Bool):A9 [.bl b]=some (.int (if b then 1 else 0)):=nr rfl
def iI(xs:List D):sN (.lst xs)=some xs:=nr rfl
def iE(xs:List D):sN (.tup xs)=some xs:=nr rfl
def lG(k:R D):zV (.bl true) k=k:=nr rfl
def lr(k:R D):zV (.bl false) k=.ok (.bl false):=nr rfl
def nR(k:R D):KO (.bl true) k=.ok (.bl true):=nr rfl
def oC(k:R D):KO (.bl false) k=k:=nr rfl
def la(a b:Bool):zV (.bl a) (.ok (.bl b))=.ok (.bl (a&&b)):=by cases a<;>rfl
def oE(a b:Bool):KO (.bl a) (.ok (.bl b))=.ok (.bl (a||b)):=by cases a<;>rfl
def qK(b:Bool):Ad (.bl b)=some (.bl (!b)):=nr rfl
def qH(xs:List D):Iw (.lst xs)=some (.lst xs.reverse):=nr rfl
def lx(n:Nat)(h:n<2^62):om [.int n]=some (gS 0 n):=by
 show(if okR (n:Int)then some (gS 0 ((n:Int).toNat))else none)=_
 have:okR (n:Int)=true:=decide_eq_true ⟨by omega,by omega⟩
 rw[this];rfl
def Ee{xs:List D}(h:xs.length<=100000):nc xs=some (.lst xs):=by unfold nc;rw[fg h];rfl
def pf{α:Type}(f:α->D)(h:∀a,pl (f a)=true):∀xs:List α,oV (xs.map f)=true
 |[]=>rfl
 |x::xs=>by
  show(pl (f x)&&oV (xs.map f))=true;rw[h,pf f h xs];rfl
def Gn(f:Str->D)(hf:f=D.str)(w:Str)(ws:List Str):inD (.str w) (ws.map f)=ws.any λy=>y==w:=by
 subst hf;unfold inD;rw[QF];congr 1
def wN(w:Str)(ws:List Str):Fi (.str w) (.tup (ws.map .str))=some (.bl (ws.contains w)):=by
 show(if(pl (.str w)&&oV (ws.map .str))&&gF 8 (.str w)then some (D.bl (inD (.str w) (ws.map .str)))else none)=_;rw[Gn _ rfl,pf _ λ_=>rfl];show some (D.bl _)=_;congr 2
 induction ws with
 |nil=>rfl
 |cons x xs ih=>rw[Pw,Qo,ih,Bool.beq_comm]
def FK(w:Str)(ws:List Str):Fi (.str w) (.lst (ws.map .str))=some (.bl (ws.contains w)):=wN w ws
def t6(xs ys:List D)(h:xs.length+ys.length<=100000):bS (.lst xs) (.lst ys)=some (.lst (xs++ys)):=by
 show(if small (xs.length+ys.length)then some (D.lst (xs++ys))else none)=_;rw[fg h];rfl
def fe(xs ys:List D)(h:xs.length+ys.length<=100000):bS (.tup xs) (.tup ys)=some (.tup (xs++ys)):=by
 show(if small (xs.length+ys.length)then some (D.tup (xs++ys))else none)=_;rw[fg h];rfl
def nW(xs:List D)(lo hi:Option Int):uc (.lst xs) lo hi=some (.lst (cutD xs lo hi)):=nr rfl
def nV(xs:List D)(lo hi:Option Int):uc (.tup xs) lo hi=some (.tup (cutD xs lo hi)):=nr rfl
def dR{ix:List (Option Nat)}{G:ay->R (List D)}{g:GF}{C:ay->R Bool}{Fe:FX}{ρ:ay}{ds r:List D}(h1:G ρ=.ok ds)(h2:ds.length<=100000)(h3:CY (inB ix ρ) g C Fe ds=.ok r):gz ix G g C Fe ρ=.ok (.lst r):=by
 unfold gz;rw[h1,fj,fg h2,h3];rfl
def jR{α:Type}{ρ:ay}{g:GF}{C:ay->R Bool}{Fe:FX}(mk:α->D)(p:α->Bool)(v:α->D):∀xs:List α,(∀a∈xs,∃ρ1,g (mk a) ρ=some ρ1/\C ρ1=.ok (p a)/\Fe ρ1=.ok (v a))->
  CY ρ g C Fe (xs.map mk)=.ok ((xs.filter p).map v)
 |[],_=>rfl
 |a::xs,h=>by
  obtain⟨ρ1,h1,h2,h3⟩:=h a OJ;rw[OZ,pQ,h1,iZ,fj,h2,mD,fj,h3,mD,fj,jR mk p v xs λb hb=>h b (OL _ hb)];cases e:p a with
  |true=>rw[if_pos rfl,Qz e];rfl
  |false=>rw[if_neg OX,QA (by simp[e])]
def ju{α:Type}{ρ:ay}{g:GF}{C:ay->R Bool}{Fe:FX}(mk:α->D)(v:α->D)(xs:List α)(h:∀a∈xs,∃ρ1,g (mk a) ρ=some ρ1/\C ρ1=.ok true/\Fe ρ1=.ok (v a)):CY ρ g C Fe (xs.map mk)=.ok (xs.map v):=by
 rw[jR mk (λ_=>true) v xs h,List.filter_eq_self.mpr λ_ _=>rfl]
def AJ{g:GF}{B:cK}{k:Ks}(Iv:Nat->ay->Prop):∀(ds:List D)(i:Nat)(ρ:ay),(∀j d ρ (k':Ks),i<=j->ds[j-i]?=some d->Iv j ρ->∃ρ1 ρ2,g d ρ=some ρ1/\Iv (j+1) ρ2/\B k' ρ1=k'.nx ρ2)->Iv i ρ->∃ρ',Iv (i+ds.length) ρ'/\mH g B k ds ρ=k.nx ρ'
 |[],i,ρ,_,h=>⟨ρ,h,rfl⟩
 |d::ds,i,ρ,st,h=>by
  obtain⟨ρ1,ρ2,e1,h2,e2⟩:=st i d ρ ⟨mH g B k ds,k.nx,mH g B k ds,k.ex⟩ (OT _) (by rw[Qr];rfl) h;obtain⟨ρ',h3,e3⟩:=AJ (g:=g) (B:=B) (k:=k) Iv ds (i+1) ρ2 (λj d' ρ k' hj hd=>st j d' ρ k' ‹0› (by rw[show j-i=(j-(i+1))+1 by omega,Qj];exact hd)) h2;refine⟨ρ',?_,?_⟩
  ·rw[OY]
   have:i+(ds.length+1)=i+1+ds.length:=(by omega);rw[this];exact h3
  ·show((rO (g d ρ)).bind λρ1=>B ⟨mH g B k ds,k.nx,mH g B k ds,k.ex⟩ ρ1)=_;rw[e1,iZ,fj,e2];exact e3
def fS{g:GF}{B:cK}{k:Ks}{ds:List D}{ρ:ay}{Q:R D->Prop}(Iv:Nat->ay->Prop)(st:∀i d ρ (k':Ks),ds[i]?=some d->Iv i ρ->∃ρ1 ρ2,g d ρ=some ρ1/\Iv (i+1) ρ2/\B k' ρ1=k'.nx ρ2)(h:Iv 0 ρ)(q:∀ρ',Iv ds.length ρ'->Q (k.nx ρ')):Q (mH g B k ds ρ):=by
 obtain⟨ρ',h1,e⟩:=AJ (k:=k) Iv ds 0 ρ (λj d ρ k' _ hd=>st j d ρ k' hd) h;rw[e];rw[Qn]at h1;exact q ρ' h1
def cW{α:Type}{xs:List α}{i:Nat}{a:α}(h:xs[i]?=some a):i<xs.length:=by
 rcases QH i xs.length with z|z
 ·exact z
 ·rw[QI z]at h;cases h
def sJ{α β:Type}(f:α->β)(xs:List α)(i:Int):o8 (xs.map f) i=(o8 xs i).map f:=by
 unfold o8;rw[O0];cases Fk xs.length i with
 |none=>rfl
 |some j=>simp
def tH{α:Type}{xs:List α}{k:Nat}(h:k<xs.length):o8 xs (k:Int)=some xs[k]:=by
 unfold o8 Fk;rw[if_pos ‹0›,if_pos ‹0›];simp[h]
def p6{α:Type}{xs:List α}{i:Int}(h0:0<=i)(h:i<xs.length):o8 xs i=some (xs[i.toNat]'‹0›):=by
 have e:i=((i.toNat:Nat):Int):=by omega
 conv=>lhs;rw[e]
 exact tH ‹0›
def G8:cK:=aG (lK (fB (f2 ve (ah 1) (fL gD (af (ah 0) (aq))))) (bL (f2 aD (ah 0) (ah 1))) (cU)) (bL (fC (.int 0)))
def xu(ns:List Int)(k:Nat):aN G8 2 2 [.lst (ns.map .int),.int k]=.ok (.int (ns.getD k 0)):=by
 show(if decide ((k:Int)<((ns.map D.int).length:Int))then su (rO (o8 (ns.map D.int) (k:Int))) _ _ .ok else .ok (.int 0))=_;rw[O0];by_cases h:k<ns.length
 ·rw[if_pos (by simpa using h),sJ,tH h,Option.map_some,QD,PX h];rfl
 ·rw[if_neg (by simpa using h),QD,QI ‹0›];rfl
def EQ(ns:List Int)(i:Int)(h:0<=i):∃c:Int,aN G8 2 2 [.lst (ns.map .int),.int i]=.ok (.int c):=by
 have e:i=((i.toNat:Nat):Int):=by omega
 exact⟨ns.getD i.toNat 0,by rw[e];exact xu ns i.toNat⟩
def Bl(x y:Str):(x++y).length=x.length+y.length:=by
 show(x.cps++y.cps).size=_;rw[Array.size_append];rfl
def jb(x y:Str)(h:x.length<=1000)(h':y.length<=1000):bS (.str x) (.str y)=some (.str (x++y)):=by
 show(if small (x.length+y.length)then some (D.str (x++y))else none)=_;rw[fg ‹0›];rfl
def sr(x:Str)(h:x.length<=1000)(i:Int)(h0:0<=i)(h1:i<x.length):∃y:Str,y.length=1/\aD (.str x) (.int i)=some (.str y):=by
 have hl:x.cps.toList.length=x.length:=by simp[Str.length]
 have hi:i<x.cps.toList.length:=by omega
 refine⟨⟨#[x.cps.toList[i.toNat]'‹0›]⟩,rfl,?_⟩;show(if small x.length then(o8 x.cps.toList i).bind λc=>some (D.str ⟨#[c]⟩)else none)=_;rw[fg ‹0›,if_pos rfl,p6 h0 hi];rfl
def kQ(lo:Int)(n:Nat):gS lo n=(List.range n).map λ(k:Nat)=>D.int (lo+(k:Int)):=nr rfl
def dy(lo:Int)(n:Nat):(gS lo n).length=n:=by unfold gS;rw[O0,P8]
def jK{α:Type}(xs:List α)(m:Nat):cutD xs none (some (m:Int))=xs.take m:=by
 unfold cutD;rw[HT.Lg,HT.LZ,PN,P9];rcases QL m xs.length with h|h
 ·rw[QM h]
 ·rw[QN h,QJ h,QJ (OT _)]
def tQ{α:Type}(xs:List α)(m:Nat):cutD xs (some (m:Int)) none=xs.drop m:=by
 unfold cutD;rw[HT.Lg,HT.LZ];rcases QL m xs.length with h|h
 ·rw[QM h];exact QJ (by rw[Pm];exact OT _)
 ·rw[QN h,Qr,PK,QQ h]
def sg(ρ:ay):uh ρ=.ok (.dct [] []):=nr rfl
def tE(q:List Key):kF (.tup (q.map bQ))=some q:=cQ q
def Bd{i:Nat}{fk fv:FX}{k:Ks}{ρ:ay}{al:List (List Key×D)}{q:List Key}{v:D}(h:ρ[i]?=some (some (.own (fX al))))(ek:fk ρ=.ok (.tup (q.map bQ)))(ev:fv ρ=.ok v)(hl:al.length<=100000):uy i fk fv k ρ=k.nx (ρ.set i (some (.own (fX (iW al q v))))):=by
 have e:vf (encK al) (al.map (·.2)) (.tup (q.map bQ)) v=some (iW al q v):=by
  unfold vf;rw[pq];show(kF (.tup (q.map bQ))).bind _=_;rw[tE];show(if small al.length then _ else _)=_;rw[fg hl];rfl
 unfold uy;rw[h];show su ((fv ρ).bind λv=>(fk ρ).bind λq=>rO (vf (encK al) (al.map (·.2)) q v)) k ρ _=_;rw[ev,fj,ek,fj,e];rfl
def EH{α:Type}(xs:List α)(a:α):cutD (xs++[a]) none (some (-1))=xs:=by
 unfold cutD;have e:HT.sIx (xs++[a]).length (xs++[a]).length (some (-1))=xs.length:=by
  show(if(-1:Int)<0 then((-1:Int)+((xs++[a]).length:Int)).toNat else min (-1:Int).toNat (xs++[a]).length)=_;rw[if_pos (by decide),Pk,Pq];omega
 rw[HT.Lg,e,PN,P9,List.take_left]
local macro_rules
 |`(tactic| simp! only[$xs,*])=>`(tactic| simp only[fj,v7,sM,vo,mD,iZ,ge_0,B8,qQ,Cz,qo,oB,qZ,qm,Cw,BI,B6,BQ,BJ,qA,qf,vY,kN,ox,qB,oj,wa,rg,qy,ou,qS,lw,qP,lE,kR,jD,jC,qU,nO,jH,n5,kZ,oA,oz,js,nX,lI,oT,ow,lJ,jY,oo,nK,CA,vU,BR,BH,CM,rd,n6,qO,nM,oy,Bx,CW,QR,QS,OZ,Pt,PJ,P5,K0,env0,List.replicate,Qs,O5,Qn,Nat.reduceAdd,Nat.reduceSub,OY,Px,qp,qT,vy,qI,ra,qC,jE,qW,vM,vg,vN,qu,lB,kJ,lH,lg,lF,lD,pY,vh,vQ,vi,vS,vA,lm,kM,iS,iY,qt,jF,iN,iU,iO,my,mr,iI,iE,lG,lr,nR,oC,la,oE,qK,qH,nW,nV,gN,if_true,if_false,QT,QU,PF,$xs,*])
def Jx(a b c:D):vC [a,b,c]=some (.tup [a,b,c]):=nr rfl
def qb(a b:D):vC [a,b]=some (.tup [a,b]):=nr rfl
def Of(a:D):vC [a]=some (.tup [a]):=nr rfl
def Fh:vC []=some (.tup []):=nr rfl
def Ik:nc []=some (.lst []):=nr rfl
def Gc(m:Nat)(rows:List (List D)):Prop:=rows.Pairwise λr s=>gC (r.take m) (s.take m)=some true
inductive F2{α β:Type}(R:α->β->Prop):List α->List β->Prop where
 |nil:F2 R [] []
 |cons {a:α} {b:β} {as:List α} {bs:List β} (h:R a b) (t:F2 R as bs):F2 R (a::as) (b::bs)
def Dc{ρ:ay}{g:GF}{C:ay->R Bool}{Fe:FX}:∀(ds:List D)(P:Nat->D->Prop),(∀i d,ds[i]?=some d->∃ρ1 v,g d ρ=some ρ1/\C ρ1=.ok true/\Fe ρ1=.ok v/\P i v)->∃vs:List D,vs.length=ds.length/\(∀i v,vs[i]?=some v->P i v)/\CY ρ g C Fe ds=.ok vs
 |[],_,_=>⟨[],rfl,(λ_ _ h=>nomatch h),rfl⟩
 |d::ds,P,h=>by
  obtain⟨ρ1,w,h1,h2,h3,h4⟩:=h 0 d rfl;obtain⟨ws,e1,e2,e3⟩:=Dc (ρ:=ρ) (g:=g) (C:=C) (Fe:=Fe) ds (λi v=>P (i+1) v) λi d' hd=>h (i+1) d' (by rw[Qj];exact hd);refine⟨w::ws,by rw[OY,OY,e1],λi v hv=>?_,?_⟩
  ·cases i with
   |zero=>cases hv;exact h4
   |succ i=>rw[Qj]at hv;exact e2 i v hv
  ·rw[pQ,h1,iZ,fj,h2,mD,fj,h3,mD,fj,e3];rfl
end TG
namespace TD
open PySem PySem.Spec L2 TG TX
def cf:cK:=aG (lK (fB (f2 ve (ah 1) (fL gD (af (ah 0) (aq))))) (bL (f2 aD (ah 0) (ah 1))) (cU)) (bL (fC (.int 0)))
def iT:cK:=bL (fL cu (af (gz [none] (bi (f2 bS (f2 aD (ah 0) (fC (.int 0))) (f2 aD (ah 0) (fC (.int 1))))) (gN 0) (cF) (f2 aD (ah 0) (fC (.int 1)))) (aq)))
def aJ:cK:=bL (f2 cB (f2 bS (f2 bS (f2 oI (ah 0) (ah 0)) (f2 oI (fC (.int 48271)) (ah 0))) (fC (.int 11))) (fC (.int 2147483647)))
def bV:cK:=aG (bg 2 (f2 cB (f2 bS (f2 bS (f2 cB (fR (aN cf 2 2) (af (ah 0) (af (ah 1) (aq)))) (fC (.int 2147483647))) (f2 oI (f2 oI (fC (.int 69621)) (ah 1)) (ah 1))) (fC (.int 5))) (fC (.int 2147483647)))) (bL (fR (aN aJ 1 1) (af (fR (aN aJ 1 1) (af (ah 2) (aq))) (aq))))
def bU:cK:=aG (bg 2 (fC (.str "abcdefghijklmnopqrstuvwxyz"))) (aG (bg 1 (f2 cB (f2 bS (f2 oI (ah 1) (f2 aD (gE (af (fC (.int 1)) (af (fC (.int 5)) (af (fC (.int 7)) (af (fC (.int 11)) (af (fC (.int 13)) (af (fC (.int 23)) (aq)))))))) (f2 cB (ah 0) (fC (.int 6))))) (f2 dg (ah 0) (fC (.int 6)))) (fC (.int 24)))) (aG (bg 0 (f2 dg (ah 0) (fC (.int 144)))) (aG (lK (fB (f2 kH (f2 cB (ah 0) (fC (.int 3))) (fC (.int 0)))) (bL (f2 ub (f2 aD (ah 2) (f2 cB (f2 bS (f2 dg (ah 0) (fC (.int 3))) (f2 dg (ah 1) (fC (.int 8)))) (fC (.int 26)))) (f2 bS (fC (.int 1)) (f2 cB (ah 1) (fC (.int 8)))))) (cU)) (aG (bg 3 (f2 bS (fC (.int 1)) (f2 cB (f2 dg (ah 0) (fC (.int 3))) (fC (.int 8))))) (aG (bg 4 (fC (.str ""))) (aG (ku (iB (af (ah 3) (aq))) (gN 5) (aG (bg 6 (f2 dg (ah 0) (f2 bS (fC (.int 24)) (f2 oI (f2 oI (fC (.int 11)) (ah 5)) (ah 5))))) (aG (lK (fB (f2 kH (ah 5) (f2 cB (f2 dg (ah 0) (fC (.int 24))) (ah 3)))) (bg 6 (f2 bS (ah 6) (ah 1))) (cU)) (aG (bg 4 (f2 bS (ah 4) (f2 aD (ah 2) (f2 cB (ah 6) (fC (.int 26)))))) (eD [5,6] cU))))) (bL (ah 4))))))))
noncomputable def dF:cK:=aG (lK (fB (f2 ve (f2 cB (ah 0) (fC (.int 3))) (fC (.int 2)))) (aG (bg 1 (f2 aD (gE (af (fC (.int 0)) (af (uQ (fC (.int 3))) (af (f2 w8 (fC (.int 0)) (f2 cB (f2 lj (ah 0) (fC (.int 7))) (f2 lj (fC (.int 10)) (fC (.int 59))))) (af (f2 cB (f2 lj (ah 0) (fC (.int 7))) (f2 lj (fC (.int 10)) (fC (.int 59)))) (aq)))))) (f2 cB (f2 dg (ah 0) (fC (.int 3))) (fC (.int 4))))) (bL (aL (af (fC (.str "number")) (af (ah 1) (af (f2 bS (ah 1) (f2 aD (gE (af (fC (.int 0)) (af (fC (.int 1)) (af (fC (.int 6)) (af (f2 lj (fC (.int 10)) (fC (.int 59))) (aq)))))) (f2 cB (f2 dg (ah 0) (fC (.int 12))) (fC (.int 4))))) (aq))))))) (cU)) (aG (bg 2 (fC (.str "abcdefghijklmnopqrstuvwxyz"))) (aG (bg 3 (f2 aD (ah 2) (f2 cB (f2 dg (ah 0) (fC (.int 3))) (fC (.int 26))))) (aG (bg 4 (f2 aD (ah 2) (f2 cB (f2 dg (ah 0) (fC (.int 78))) (fC (.int 26))))) (aG (bg 5 (gE (af (fC (.str "")) (af (ah 3) (af (ah 4) (af (f2 bS (ah 3) (ah 4)) (af (f2 bS (ah 4) (ah 3)) (af (f2 ub (ah 3) (fC (.int 8))) (af (f2 bS (ah 3) (ah 3)) (af (f2 ub (ah 4) (fC (.int 3))) (aq))))))))))) (aG (jU 6 uh) (eD [1,2,4] (aG (ku (iB (af (fC (.int 8)) (aq))) (gN 7) (aG (lK (fB (f2 kH (f2 tX (f2 zO (f2 dg (ah 0) (fC (.int 2028))) (ah 7)) (fC (.int 1))) (fC (.int 1)))) (oK 6 (f2 aD (ah 5) (ah 7)) (fC (.bl true))) (cU)) (eD [7] cU))) (aG (lK (nH [6] (fB (f2 kH (fL we (af (ah 6) (aq))) (fC (.int 0))))) (oK 6 (ah 3) (fC (.bl true))) (cU)) (fY 6 (bL (aL (af (fC (.str "word")) (af (fL cu (af (fL eU (af (fL mR (af (ah 6) (aq))) (aq))) (aq))) (aq))))))))))))))
open PySem PySem.Spec L2 TG
local macro_rules
 |`(tactic| simp! only[$xs,*])=>`(tactic| simp only[fj,v7,sM,vo,mD,iZ,ge_0,B8,qQ,Cz,qo,oB,qZ,qm,Cw,BI,B6,BQ,BJ,qA,qf,vY,kN,ox,qB,oj,wa,rg,qy,ou,qS,lw,qP,lE,kR,jD,jC,qU,nO,jH,n5,kZ,oA,oz,js,nX,lI,oT,ow,lJ,jY,oo,nK,CA,vU,BR,BH,CM,rd,n6,qO,nM,oy,Bx,CW,QR,QS,OZ,Pt,PJ,P5,K0,env0,List.replicate,Qs,O5,Qn,Nat.reduceAdd,Nat.reduceSub,OY,Px,qp,qT,vy,qI,ra,qC,jE,qW,vM,vg,vN,qu,lB,kJ,lH,lg,lF,lD,pY,vh,vQ,vi,vS,vA,lm,kM,iS,iY,qt,jF,iN,iU,iO,my,mr,iI,iE,lG,lr,nR,oC,la,oE,qK,qH,nW,nV,gN,if_true,if_false,QT,QU,PF,$xs,*])
def Lz(ns:List Int)(i:Int)(h:0<=i):∃c:Int,aN cf 2 2 [.lst (ns.map .int),.int i]=.ok (.int c):=EQ ns i h
def AU:∀bs:List Bool,allB (bs.map .bl)=some (bs.all id)
 |[]=>rfl
 |b::bs=>by
  show(allB (bs.map .bl)).bind (λc=>some (b&&c))=_;rw[AU bs];rfl
def Cb(xs ys:List D):uT [.tup xs,.tup ys]=some (kE xs ys):=nr rfl
local macro_rules
 |`(tactic| simp! only[$xs,*])=>`(tactic| simp only[fj,v7,sM,vo,mD,iZ,ge_0,B8,qQ,Cz,qo,oB,qZ,qm,Cw,BI,B6,BQ,BJ,qA,qf,vY,kN,ox,qB,oj,wa,rg,qy,ou,qS,lw,qP,lE,kR,jD,jC,qU,nO,jH,n5,kZ,oA,oz,js,nX,lI,oT,ow,lJ,jY,oo,nK,CA,vU,BR,BH,CM,rd,n6,qO,nM,oy,Bx,CW,QR,QS,OZ,Pt,PJ,P5,K0,env0,List.replicate,Qs,O5,Qn,Nat.reduceAdd,Nat.reduceSub,OY,Px,qp,qT,vy,qI,ra,qC,jE,qW,vM,vg,vN,qu,lB,kJ,lH,lg,lF,lD,pY,vh,vQ,vi,vS,vA,lm,kM,iS,iY,qt,jF,iN,iU,iO,my,mr,iI,iE,lG,lr,nR,oC,la,oE,qK,qH,nW,nV,gN,if_true,if_false,QT,QU,PF,$xs,*])
abbrev fld(p:Str×D):D:=.tup [.str p.1,p.2]
end TD
namespace T4
open PySem PySem.Spec L2 TG TD
local macro_rules
 |`(tactic| simp! only[$xs,*])=>`(tactic| simp only[fj,v7,sM,vo,mD,iZ,ge_0,B8,qQ,Cz,qo,oB,qZ,qm,Cw,BI,B6,BQ,BJ,qA,qf,vY,kN,ox,qB,oj,wa,rg,qy,ou,qS,lw,qP,lE,kR,jD,jC,qU,nO,jH,n5,kZ,oA,oz,js,nX,lI,oT,ow,lJ,jY,oo,nK,CA,vU,BR,BH,CM,rd,n6,qO,nM,oy,Bx,CW,QR,QS,OZ,Pt,PJ,P5,K0,env0,List.replicate,Qs,O5,Qn,Nat.reduceAdd,Nat.reduceSub,OY,Px,qp,qT,vy,qI,ra,qC,jE,qW,vM,vg,vN,qu,lB,kJ,lH,lg,lF,lD,pY,vh,vQ,vi,vS,vA,lm,kM,iS,iY,qt,jF,iN,iU,iO,my,mr,iI,iE,lG,lr,nR,oC,la,oE,qK,qH,nW,nV,gN,if_true,if_false,QT,QU,PF,$xs,*])
def DS{x:Str}{n:Int}(h:1<=n)(h':n<=1000)(hx:x.length<=1000):ub (.str x) (.int n)=some (.str (lu x n)):=by
 show(if decide (1<=n/\n<=1000/\x.length<=1000)then some (D.str (lu x n))else none)=_;rw[decide_eq_true ⟨h,h',hx⟩];rfl
def gI(x:Int)(h0:0<=x)(h1:x<2147483700):∃y:Int,0<=y/\y<2147483647/\aN aJ 1 1 [.int x]=.ok (.int y):=by
 have m1:=sB (i:=x) (j:=x) ‹0› ‹0›;have m2:=sB (i:=48271) (j:=x) (by decide) (by decide);have g:=λi=>gb (i:=i) (show(0:Int)<2147483647 by decide);refine⟨(x*x+48271*x+11)%2147483647,QV _ (by decide),QW _ (by decide),?_⟩;rw[mQ];unfold aJ;simp! only[m1,m2,g]
def pW(ns:List Int)(k:Nat)(hk:k<=100):∃y:Int,0<=y/\y<2147483647/\aN bV 2 3 [.lst (ns.map .int),.int k]=.ok (.int y):=by
 obtain⟨c,ec⟩:=TD.Lz ns k ‹0›;have m1:=sB (i:=69621) (j:=(k:Int)) (by decide) (by decide);have m2:=nZ (i:=69621*(k:Int)) (j:=(k:Int)) ‹0› ‹0›;have g:=λi=>gb (i:=i) (show(0:Int)<2147483647 by decide);obtain⟨y1,a1,b1,e1⟩:=gI ((c%2147483647+69621*(k:Int)*(k:Int)+5)%2147483647) (QV _ (by decide)) (by have:=QW (c%2147483647+69621*(k:Int)*(k:Int)+5) (show(0:Int)<2147483647 by decide);omega);obtain⟨y2,a2,b2,e2⟩:=gI y1 a1 ‹0›;refine⟨y2,a2,b2,?_⟩;rw[eW];unfold bV;simp! only[ec,g,m1,m2,e1,e2]
def wB{i:Nat}{fk fv:FX}{k:Ks}{ρ:ay}{al:List (Key×D)}{q:Key}{d v:D}(h:ρ[i]?=some (some (.own (y8 al))))(ek:fk ρ=.ok d)(hd:d=bQ q)(ev:fv ρ=.ok v)(hl:al.length<=1000):
  oK i fk fv k ρ=k.nx (ρ.set i (some (.own (y8 (rW al q v))))):=by
 subst hd;have e:vG (je al) (al.map (·.2)) (bQ q) v=some (rW al q v):=by
  unfold vG;rw[vI];show(keyOf (bQ q)).bind _=_;rw[lP];show(if small al.length then _ else _)=_;rw[fg ‹0›];rfl
 unfold oK;rw[h];show su ((fv ρ).bind λv=>(fk ρ).bind λq=>rO (vG (je al) (al.map (·.2)) q v)) k ρ _=_;rw[ev,fj,ek,fj,e];rfl
abbrev AO(ws:List Str):List (Key×D):=ws.map λw=>((.inr w:Key),D.bl true)
abbrev wd(ws:List Str):D:=y8 (AO ws)
def qV(ws:List Str)(w:Str):List Str:=if w∈ws then ws else ws++[w]
def zD(ws:List Str)(w:Str):rW (AO ws) (.inr w) (.bl true)=AO (qV ws w):=by
 have e:((AO ws).any λp=>decide (p.1=(.inr w:Key)))=decide (w∈ws):=by
  induction ws with
  |nil=>simp
  |cons a ws ih=>
   show(decide ((.inr a:Key)=.inr w)||(AO ws).any λp=>decide (p.1=(.inr w:Key)))=_;rw[ih];by_cases z:a=w
   ·subst z;simp
   ·have z':¬(.inr a:Key)=.inr w:=λq=>z (Sum.inr.inj q);have z2:¬w=a:=λq=>z q.symm;simp[z',z2]
 unfold rW qV;rw[e];by_cases h:w∈ws
 ·rw[if_pos (by simpa using h),if_pos h];show(ws.map _).map _=_;rw[QE];refine P6 λa _=>?_;show(if(.inr a:Key)=.inr w then((.inr a:Key),D.bl true)else((.inr a:Key),D.bl true))=_;split<;>rfl
 ·rw[if_neg (by simpa using h),if_neg h];show _=(ws++[w]).map _;rw[P7];rfl
def wF{ws:List Str}(w:Str)(h:ws.Nodup):(qV ws w).Nodup:=by
 unfold qV;split
 ·exact h
 ·rename_i z;exact List.nodup_append.mpr ⟨h,List.nodup_cons.mpr ⟨by simp,PB⟩,λa ha b hb e=>by
   rw[QK]at hb;subst hb e;exact z ha⟩
def tS(ws:List Str)(w:Str):(qV ws w).length<=ws.length+1:=by
 unfold qV;split
 ·omega
 ·simp
def Hw(ws:List Str):je (AO ws)=ws.map D.str:=by
 show(ws.map _).map _=_;rw[QE];rfl
def Dx(ws:List Str):keysOf (je (AO ws))=some (ws.map .inr):=by
 rw[show je (AO ws)=(ws.map (.inr:Str->Key)).map bQ from by rw[Hw,QE];rfl];exact cQ _
def GO(ws:List Str):we [wd ws]=some (.int ws.length):=by
 show(keysOf (je (AO ws))).bind _=_;rw[Dx];show some (D.int ((ws.map _).length:Int))=_;rw[O0]
def yK(ws:List Str):mR [wd ws]=some (.lst (ws.map .str)):=by
 show(keysOf (je (AO ws))).bind _=_;rw[Dx];show some (D.lst (je (AO ws)))=_;rw[Hw]
def t9(is:List Nat)(f:ay->R Bool)(ρ:ay):nH is f ρ=FV (f (frzs is ρ)):=nr rfl
def HJ(i:Nat)(ρ:ay):frzs [i] ρ=frz i ρ:=nr rfl
def Ek(i:Int)(k:Nat):zO (.int i) (.int k)=some (.int (i/2^k)):=by
 show(if decide (0<=(k:Int))then some (D.int (i/2^(k:Int).toNat))else none)=_;rw[decide_eq_true ‹0›];rfl
def xi(i j:Int):tX (.int i) (.int j)=some (.int (Builtin.bitAnd i j)):=nr rfl
def Jh(a b c d:D):nc [a,b,c,d]=some (.lst [a,b,c,d]):=nr rfl
def LJ(a b c d e f g h:D):nc [a,b,c,d,e,f,g,h]=some (.lst [a,b,c,d,e,f,g,h]):=nr rfl
def Ou(a b c d:D)(i:Int)(h0:0<=i)(h1:i<4):∃x∈[a,b,c,d],aD (.lst [a,b,c,d]) (.int i)=some x:=by
 rcases(show i=0\/i=1\/i=2\/i=3 by omega)with z|z|z|z<;>subst z
 ·exact⟨a,by simp,rfl⟩
 ·exact⟨b,by simp,rfl⟩
 ·exact⟨c,by simp,rfl⟩
 ·exact⟨d,by simp,rfl⟩
def HM(B:cK)(n:Nat)(a b c d e f:D):aN B 6 n [a,b,c,d,e,f]=B K0 (env0 n [a,b,c,d,e,f]):=nr rfl
def p4{α:Type}{ρ:ay}{g:GF}{C:ay->R Bool}{Fe:FX}(mk:α->D)(p:α->Bool)(v:α->D):∀xs:List α,(∀a∈xs,∃ρ1,g (mk a) ρ=some ρ1/\C ρ1=.ok (p a)/\(p a=true->Fe ρ1=.ok (v a)))->
  CY ρ g C Fe (xs.map mk)=.ok ((xs.filter p).map v)
 |[],_=>rfl
 |a::xs,h=>by
  obtain⟨ρ1,h1,h2,h3⟩:=h a OJ;rw[OZ,pQ,h1,iZ,fj,h2,mD,fj,p4 mk p v xs λb hb=>h b (OL _ hb)];cases e:p a with
  |true=>rw[if_pos rfl,h3 e,mD,fj,Qz e];rfl
  |false=>rw[if_neg OX,QA (by simp[e])]
def mx(a b:Int):Int:=if b>a then b else a
local macro_rules
 |`(tactic| simp! only[$xs,*])=>`(tactic| simp only[fj,v7,sM,vo,mD,iZ,ge_0,B8,qQ,Cz,qo,oB,qZ,qm,Cw,BI,B6,BQ,BJ,qA,qf,vY,kN,ox,qB,oj,wa,rg,qy,ou,qS,lw,qP,lE,kR,jD,jC,qU,nO,jH,n5,kZ,oA,oz,js,nX,lI,oT,ow,lJ,jY,oo,nK,CA,vU,BR,BH,CM,rd,n6,qO,nM,oy,Bx,CW,QR,QS,OZ,Pt,PJ,P5,K0,env0,List.replicate,Qs,O5,Qn,Nat.reduceAdd,Nat.reduceSub,OY,Px,qp,qT,vy,qI,ra,qC,jE,qW,vM,vg,vN,qu,lB,kJ,lH,lg,lF,lD,pY,vh,vQ,vi,vS,vA,lm,kM,iS,iY,qt,jF,iN,iU,iO,my,mr,iI,iE,lG,lr,nR,oC,la,oE,qK,qH,nW,nV,gN,if_true,if_false,QT,QU,PF,$xs,*])
def LT:List Nat:=("abcdefghijklmnopqrstuvwxyz":Str).cps.toList
def Dk:∀a<26,∀b<26,LT[a]?=LT[b]?->a=b:=by decide +kernel
def stp(b:Int):Int:=([1,5,7,11,13,23]:List Int).getD (b%6).toNat 0
def kk(b k:Int):Int:=(k*stp b+b/6)%24
def jz(b:Int):Int:=b/144/24%(1+b/144/3%8)
def yQ(b k:Int)(w:Str):Prop:=
 (b/144%3=0->w.length=(1+kk b k%8).toNat/\w.cps.toList[0]?=LT[((b/144/3+kk b k/8)%26).toNat]?)/\
 (b/144%3≠0->w.cps.toList[(jz b).toNat]?=LT[((b/144/(24+11*jz b*jz b)+kk b k)%26).toNat]?)
def KP(b k:Int):0<=kk b k/\kk b k<24:=⟨QV _ (by decide),QW _ (by decide)⟩
def HI{b k1 k2:Int}(a1:0<=k1)(a2:k1<24)(b1:0<=k2)(b2:k2<24)(h:kk b k1=kk b k2):k1=k2:=by
 unfold kk stp at h;rcases(show b%6=0\/b%6=1\/b%6=2\/b%6=3\/b%6=4\/b%6=5 by omega)with z|z|z|z|z|z<;>rw[z]at h<;>simp at h<;>omega
def G6{b k1 k2:Int}{w:Str}(a1:0<=k1)(a2:k1<24)(b1:0<=k2)(b2:k2<24)(h1:yQ b k1 w)(h2:yQ b k2 w):k1=k2:=by
 refine HI (b:=b) a1 a2 b1 b2 ?_;have q1:=KP b k1;have q2:=KP b k2;by_cases z:b/144%3=0
 ·obtain⟨l1,e1⟩:=h1.1 z;obtain⟨l2,e2⟩:=h2.1 z
  have:=Dk _ ‹0› _ ‹0› (e1.symm.trans e2)
  omega
 ·have:=Dk _ ‹0› _ ‹0› ((h1.2 z).symm.trans (h2.2 z))
  omega
def Ai(x:Str)(h:x.length<=1000)(i:Int)(h0:0<=i)(h1:i<x.length):∃y:Str,y.length=1/\y.cps.toList[0]?=x.cps.toList[i.toNat]?/\aD (.str x) (.int i)=some (.str y):=by
 have hl:x.cps.toList.length=x.length:=by simp[Str.length]
 have hi:i<x.cps.toList.length:=by omega
 have hn:i.toNat<x.cps.toList.length:=by omega
 refine⟨⟨#[x.cps.toList[i.toNat]'hn]⟩,rfl,?_,?_⟩
 ·rw[PX hn];rfl
 ·show(if small x.length then(o8 x.cps.toList i).bind λc=>some (D.str ⟨#[c]⟩)else none)=_;rw[fg ‹0›,if_pos rfl,p6 h0 hi];rfl
def vF(c:Array Nat)(hc:0<c.size):∀(n:Nat)(a:Array Nat),((List.replicate n c).foldl (·++·) a).toList[0]?=if a.size=0 then(if n=0 then none else c.toList[0]?)else a.toList[0]?
 |0,a=>by
  rw[Qs,List.foldl_nil];split
  ·rename_i h;simp[h]
  ·rfl
 |n+1,a=>by
  rw[Qu,Qv,vF c hc n (a++c)]
  have:¬(a++c).size=0:=by rw[Array.size_append];omega
  rw[if_neg this,Array.toList_append];by_cases h:a.size=0
  ·rw[if_pos h,if_neg ‹0›,O9 (by simp[h])];simp[h]
  ·rw[if_neg h,Pb (by simp;omega)]
def E5{y:Str}{n:Int}(h:1<=n)(hy:y.length=1):(lu y n).cps.toList[0]?=y.cps.toList[0]?:=by
 unfold lu;split
 ·rfl
 ·have hc:0<y.cps.size:=by have:y.cps.size=1:=hy;omega
  rw[vF y.cps hc n.toNat #[]];split
  ·rw[if_neg ‹0›]
  ·rename_i z;exact absurd rfl z
def AR(x y:Str):(x++y).cps.toList=x.cps.toList++y.cps.toList:=by
 show(x.cps++y.cps).toList=_;rw[Array.toList_append]
def wX(x:Str):x.cps.toList.length=x.length:=by simp[Str.length]
def sI(b k:Int)(hb:0<=b)(hk:0<=k):∃w:Str,aN bU 2 7 [.int b,.int k]=.ok (.str w)/\yQ b k w:=by
 have LL:(("abcdefghijklmnopqrstuvwxyz":Str)).length=26:=by decide +kernel
 have hLT:LT=("abcdefghijklmnopqrstuvwxyz":Str).cps.toList:=rfl;generalize hL:("abcdefghijklmnopqrstuvwxyz":Str)=L at LL hLT;have g3:=λi=>gb (i:=i) (show(0:Int)<3 by decide);have g6:=λi=>gb (i:=i) (show(0:Int)<6 by decide);have g8:=λi=>gb (i:=i) (show(0:Int)<8 by decide);have g24:=λi=>gb (i:=i) (show(0:Int)<24 by decide);have g26:=λi=>gb (i:=i) (show(0:Int)<26 by decide);have d3:=λi=>mU (i:=i) (show(0:Int)<3 by decide) (show(3:Int)<10^200 by decide);have d6:=λi=>mU (i:=i) (show(0:Int)<6 by decide) (show(6:Int)<10^200 by decide);have d8:=λi=>mU (i:=i) (show(0:Int)<8 by decide) (show(8:Int)<10^200 by decide);have d24:=λi=>mU (i:=i) (show(0:Int)<24 by decide) (show(24:Int)<10^200 by decide);have d144:=λi=>mU (i:=i) (show(0:Int)<144 by decide) (show(144:Int)<10^200 by decide);obtain⟨st,hst,hstp,est⟩:∃st:Int,(0<=st/\st<=25)/\stp b=st/\aD (.lst [.int 1,.int 5,.int 7,.int 11,.int 13,.int 23]) (.int (b%6))=some (.int st):=by
  rcases(show b%6=0\/b%6=1\/b%6=2\/b%6=3\/b%6=4\/b%6=5 by omega)with z|z|z|z|z|z<;>rw[z]
  ·exact⟨1,by decide,by unfold stp;rw[z];rfl,rfl⟩
  ·exact⟨5,by decide,by unfold stp;rw[z];rfl,rfl⟩
  ·exact⟨7,by decide,by unfold stp;rw[z];rfl,rfl⟩
  ·exact⟨11,by decide,by unfold stp;rw[z];rfl,rfl⟩
  ·exact⟨13,by decide,by unfold stp;rw[z];rfl,rfl⟩
  ·exact⟨23,by decide,by unfold stp;rw[z];rfl,rfl⟩
 have l6:∀a b c d e f:D,nc [a,b,c,d,e,f]=some (.lst [a,b,c,d,e,f]):=λ_ _ _ _ _ _=>rfl;have ms:=nZ (i:=k) (j:=st) ‹0› ‹0›;have hkk:kk b k=(k*st+b/6)%24:=by unfold kk;rw[hstp]
 generalize hk':(k*st+b/6)%24=k' at hkk;have k1:0<=k'/\k'<24:=by omega
 have hP:∀w,yQ b k w=((b/144%3=0->w.length=(1+kk b k%8).toNat/\w.cps.toList[0]?=LT[((b/144/3+kk b k/8)%26).toNat]?)/\(b/144%3≠0->w.cps.toList[(jz b).toNat]?=LT[((b/144/(24+11*jz b*jz b)+kk b k)%26).toNat]?)):=λ_=>rfl;have hj:jz b=b/144/24%(1+b/144/3%8):=rfl;generalize hb':b/144=b' at hP hj;generalize jz b=j0 at hP hj;rw[hkk]at hP;simp only[hP];have b0:0<=b':=by omega
 rw[eW];unfold bU;by_cases h:b'%3=0
 ·have h':(b'%3==0)=true:=by simp[h]
  obtain⟨y,hy,hy0,e1⟩:=Ai L ‹0› ((b'/3+k'/8)%26) ‹0› ‹0›;have mu:=DS (x:=y) (n:=1+k'%8) ‹0› ‹0› ‹0›;refine⟨lu y (1+k'%8),?_,λ_=>⟨by rw[yT ‹0›,hy,Nat.mul_one],by rw[E5 ‹0› hy,hy0,hLT]⟩,λz=>absurd h z⟩;simp! only[hL,g6,l6,est,ms,d6,g24,hk',d144,hb',g3,h',d3,d8,g26,e1,g8,mu]
 ·have h':(b'%3==0)=false:=by simp[h]
  obtain⟨n,hn,hn1,hn2⟩:∃n:Nat,1+b'/3%8=(n:Int)/\1<=n/\n<=8:=⟨(1+b'/3%8).toNat,by omega,by omega,by omega⟩
  rw[hn]at hj;have hj1:0<=j0/\j0<(n:Int):=by rw[hj];exact⟨QV _ ‹0›,QW _ ‹0›⟩
  have rn:=lx n ‹0›;obtain⟨T,hT⟩:∃T:cK,T=(aG (ku (iB (af (ah 3) (aq))) (gN 5) (aG (bg 6 (f2 dg (ah 0) (f2 bS (fC (.int 24)) (f2 oI (f2 oI (fC (.int 11)) (ah 5)) (ah 5))))) (aG (lK (fB (f2 kH (ah 5) (f2 cB (f2 dg (ah 0) (fC (.int 24))) (ah 3)))) (bg 6 (f2 bS (ah 6) (ah 1))) (cU)) (aG (bg 4 (f2 bS (ah 4) (f2 aD (ah 2) (f2 cB (ah 6) (fC (.int 26)))))) (eD [5,6] cU))))) (bL (ah 4))):=⟨_,rfl⟩
  have key:∃w:Str,(w.cps.toList[j0.toNat]?=LT[((b'/(24+11*j0*j0)+k')%26).toNat]?)/\T K0 [some (.val (.int b')),some (.val (.int k')),some (.val (.str L)),some (.val (.int n)),some (.val (.str "")),none,none]=.ok (.str w):=by
   rw[hT,js,jY];simp! only[rn];refine fS (Q:=λz=>∃w:Str,(w.cps.toList[j0.toNat]?=LT[((b'/(24+11*j0*j0)+k')%26).toNat]?)/\z=.ok (.str w)) (λi ρ=>∃w:Str,w.length=i/\(j0<(i:Int)->w.cps.toList[j0.toNat]?=LT[((b'/(24+11*j0*j0)+k')%26).toNat]?)/\ρ=[some (.val (.int b')),some (.val (.int k')),some (.val (.str L)),some (.val (.int n)),some (.val (.str w)),none,none]) ?_ ?_ ?_
   ·rintro i d ρ kx hd ⟨w,hw,hw2,rfl⟩;have hi:=cW hd;rw[dy]at hi;have hdi:d=.int (i:Int):=by
     rw[kQ,Ph,Qa hi]at hd;cases hd;simp
    subst hdi;have m1:=sB (i:=11) (j:=(i:Int)) (by decide) (by decide);have m2:=nZ (i:=11*(i:Int)) (j:=(i:Int)) ‹0› ‹0›;have ii:0<=11*(i:Int)*(i:Int):=Int.mul_nonneg ‹0› ‹0›;have ii2:11*(i:Int)*(i:Int)<=11*8*8:=Int.mul_le_mul ‹0› ‹0› ‹0› (by decide);have dd:=λz=>mU (i:=z) (show(0:Int)<24+11*(i:Int)*(i:Int)by omega) (show 24+11*(i:Int)*(i:Int)<10^200 by
     have:(10:Int)^200>10000:=by decide +kernel
     omega)
    have gn:=λz=>gb (i:=z) (show(0:Int)<(n:Int)by omega);generalize hs:b'/(24+11*(i:Int)*(i:Int))=s;by_cases hq:((i:Int)==b'/24%(n:Int))=true
    ·obtain⟨y,hy,hy0,e1⟩:=Ai L ‹0› ((s+k')%26) ‹0› ‹0›;have ad:=jb w y ‹0› ‹0›;refine⟨_,_,rfl,⟨w++y,by rw[Bl];omega,λ_=>?_,rfl⟩,?_⟩
     ·have eq:(i:Int)=b'/24%(n:Int):=(by simpa using hq);rw[<-hj]at eq;subst eq;rw[AR,O9 (by rw[wX];omega),wX,hw,Pl,Qr,hy0,hLT,<-hs]
     simp! only[m1,m2,dd,hs,d24,gn,hq,g26,e1,ad]
    ·have hq':((i:Int)==b'/24%(n:Int))=false:=(by simpa using hq);obtain⟨y,hy,hy0,e1⟩:=Ai L ‹0› (s%26) ‹0› ‹0›;have ad:=jb w y ‹0› ‹0›;refine⟨_,_,rfl,⟨w++y,by rw[Bl];omega,λz=>?_,rfl⟩,?_⟩
     ·have ne:j0≠(i:Int):=λq=>hq (by rw[<-q,<-hj];simp);rw[AR,Pb (by rw[wX];omega)];exact hw2 ‹0›
     simp! only[m1,m2,dd,hs,d24,gn,hq',g26,e1,ad]
   ·exact⟨"",by decide +kernel,λz=>by omega,rfl⟩
   ·rintro ρ' ⟨w,hw,hw2,rfl⟩;rw[dy]at hw2;exact⟨w,hw2 ‹0›,by simp! only[]⟩
  obtain⟨w,hw,ew⟩:=key;refine⟨w,?_,λz=>absurd z h,λ_=>hw⟩;rw[<-hT];simp only[K0]at ew;simp! only[hL,g6,l6,est,ms,d6,g24,hk',d144,hb',g3,h',d3,g8,hn,ew]
def pI:∀{σ:List Bool}{a:List D},Sh σ a->∃q:List Key,a=q.map bQ
 |_,_,.nil=>⟨[],rfl⟩
 |_,_,.int i h=>by
  obtain⟨q,e⟩:=pI h;exact⟨.inl i::q,by rw[OZ,e];rfl⟩
 |_,_,.str x h=>by
  obtain⟨q,e⟩:=pI h;exact⟨.inr x::q,by rw[OZ,e];rfl⟩
def uk:∀{p q:List Key},p.map bQ=q.map bQ->p=q:=λ{p q} h=>by
 have:=congrArg keysOf h
 rw[cQ,cQ]at this;exact Option.some.inj this
section
open Classical
variable(m:Nat)
noncomputable def Og(acc:List (List D))(r:List D):List (List D):=if r.take m∈acc then acc else acc++[r.take m]
noncomputable def fs(t:List (List D)):List (List D):=t.foldl (Og m) []
noncomputable def gp(t:List (List D))(f:List D):List (List D):=(t.filter λr=>decide (r.take m=f)).map (List.drop m)
noncomputable def flat(t:List (List D)):List (List D):=(fs m t).flatMap λf=>(gp m t f).map (f++·)
end
open Classical in
def qN(al:List (List Key×D))(q:List Key)(v:D):(iW al q v).map (·.1)=if q∈al.map (·.1)then al.map (·.1)else al.map (·.1)++[q]:=by
 have e:(al.any λp=>decide (p.1=q))=true↔q∈al.map (·.1):=by
  rw[List.any_eq_true,List.mem_map];simp only[decide_eq_true_eq]
 unfold iW;by_cases h:q∈al.map (·.1)
 ·rw[if_pos (e.mpr h),if_pos h,QE];refine P6 λp _=>?_;show(if p.1=q then(p.1,v)else p).1=p.1;split<;>rfl
 ·rw[if_neg λz=>h (e.mp z),if_neg h,P7];rfl
def ym{al:List (List Key×D)}{q:List Key}{v:D}{p:List Key×D}(h:p∈iW al q v):p∈al\/p=(q,v):=by
 unfold iW at h;split at h
 ·obtain⟨a,ha,e⟩:=List.mem_map.mp h;by_cases z:a.1=q
  ·rw[if_pos z]at e;exact .inr (by rw[<-e,z])
  ·rw[if_neg z]at e;exact .inl (by rw[<-e];exact ha)
 ·rcases List.mem_append.mp h with z|z
  ·exact .inl z
  ·exact .inr (List.mem_singleton.mp z)
def AI{al:List (List Key×D)}(q:List Key)(v:D)(h:(al.map (·.1)).Nodup):((iW al q v).map (·.1)).Nodup:=by
 rw[qN];split
 ·exact h
 ·rename_i z;exact List.nodup_append.mpr ⟨h,by simp,λa ha b hb e=>by
   rw[List.mem_singleton.mp hb]at e;rw[e]at ha;exact z ha⟩
def yS(al:List (List Key×D))(q:List Key)(v:D):(iW al q v).length<=al.length+1:=by
 have:=congrArg List.length (qN al q v)
 rw[O0]at this;rw[this];split<;>simp
def xP:∀{al:List (List Key×D)}{p:List Key×D},(al.map (·.1)).Nodup->p∈al->qw al p.1=some p.2
 |a::al,p,h,hp=>by
  obtain⟨h1,h2⟩:=List.nodup_cons.mp (by simpa using h:(a.1::al.map (·.1)).Nodup);unfold qw;by_cases e:a.1=p.1
  ·rw[QO (by simpa using e)];rcases List.mem_cons.mp hp with z|z
   ·rw[z];rfl
   ·exact absurd (show a.1∈al.map (·.1)from by rw[e];exact List.mem_map.mpr ⟨p,z,rfl⟩) h1
  ·rw[QP (by simpa using e)];rcases List.mem_cons.mp hp with z|z
   ·exact absurd (by rw[z]) e
   ·exact xP h2 z
def AX(al:List (List Key×D)):Fg (encK al) (al.map (·.2))=some al:=by
 cases al with
 |nil=>rfl
 |cons p al=>exact pq (p::al)
def yd(al:List (List Key×D)):lV [fX al]=some (.lst (encK al)):=by
 show(Fg (encK al) (al.map (·.2))).bind _=_;rw[AX];rfl
def HH(al:List (List Key×D))(q:List Key):zv (fX al) (.tup (q.map bQ))=qw al q:=by
 show(Fg (encK al) (al.map (·.2))).bind _=_;rw[AX];show(kF (.tup (q.map bQ))).bind _=_;rw[tE];rfl
def AB{al:List (List Key×D)}{σ:List Bool}(nd:(al.map (·.1)).Nodup)(hs:∀p∈al,Sh σ (p.1.map bQ))(h0:σ≠[])(hl:al.length<64):eU [.lst (encK al)]=some (.lst (jq eN (encK al)))/\yB eN (jq eN (encK al)):=by
 have hx:∀x∈encK al,∃k,x=.tup k/\Sh σ k:=λx hx=>by
  obtain⟨p,hp,rfl⟩:=List.mem_map.mp hx;exact⟨_,rfl,hs p hp⟩
 have pw:(encK al).Pairwise λx y=>eN x≠eN y:=by
  rw[QC]
  have:=List.pairwise_map.mp nd
  exact this.imp λ{a b} ne e=>ne (uk e)
 have a:HK (encK al):=⟨by rw[O0];exact hl,σ,h0,hx,pw⟩
 refine⟨?_,q5 (σ:=σ) (λx h=>by obtain⟨k,e,s⟩:=hx x h;rw[e];exact s) pw⟩;show rH (encK al)=_;unfold rH;rw[if_pos a]
def AW:∀vs:List D,(∀v∈vs,∃r,v=.tup r)->∃t:List (List D),vs=t.map .tup
 |[],_=>⟨[],rfl⟩
 |v::vs,h=>by
  obtain⟨r,e⟩:=h v OJ;obtain⟨t,et⟩:=AW vs λv hv=>h v (OL _ hv);exact⟨r::t,by rw[e,et];rfl⟩
def AL:Nat->D->Prop
 |0,d=>(∃i,d=.int i)\/∃x,d=.str x
 |n+1,d=>((∃i,d=.int i)\/∃x,d=.str x)\/∃ds,d=.tup ds/\ds.length<=1000/\∀x∈ds,AL n x
def AL.of0{d:D}(h:AL 0 d):∀n,AL n d
 |0=>h
 |_+1=>.inl h
def AL.up:∀{n:Nat}{d:D},AL n d->AL (n+1) d
 |0,_,h=>.inl h
 |n+1,_,h=>by
  rcases h with h|⟨ds,e,l,f⟩
  ·exact .inl h
  ·exact .inr ⟨ds,e,l,λx hx=>AL.up (f x hx)⟩
def AL.le{n m:Nat}(h:n<=m){d:D}(hd:AL n d):AL m d:=by
  induction m with
  | zero => have : n = 0 := by omega
            subst this;exact hd
  |succ m ih=>
    by_cases e:n=m+1
    ·subst e;exact hd
    ·exact AL.up (ih ‹0›)
def AL.tup{n:Nat}{ds:List D}(l:ds.length<=1000)(h:∀x∈ds,AL n x):AL (n+1) (.tup ds):=.inr ⟨ds,rfl,l,h⟩
def yo:∀{σ:List Bool}{a:List D},Sh σ a->∀x∈a,AL 0 x
 |_,_,.int i h,x,hx=>by
  rcases List.mem_cons.mp hx with z|z
  ·exact .inl ⟨i,z⟩
  ·exact yo h x z
 |_,_,.str i h,x,hx=>by
  rcases List.mem_cons.mp hx with z|z
  ·exact .inr ⟨i,z⟩
  ·exact yo h x z
end T4
namespace Tk57
open PySem PySem.Spec L2 TG TX TD
def top(i:Nat):SD:=PySem.Challenge.pw_twoglass_k57_no_pair_lasts.main.body.getD i (.Pass ⟨0,0,0,0⟩)
abbrev fK:SD:=inClass (top 26) 0
def o5:aX ["self","name"] ["self","name"] (aA fK):=‹2›
abbrev h7:SD:=top 40
def uX:aX ["_law_found","_law_due","_law_one","_law_other"] ["_law_found","_law_due"] (aA h7):=‹2›
def eV(aM:List D->R D):cK:=aG (lK (iL (nh "str" (ah 1))) (bL (iz (nh "str" (ah 0)) (f2 kH (ah 0) (ah 1)))) (cU)) (aG (lK (FQ (iL (nh "bool" (ah 1))) (iL (nh "bool" (ah 0)))) (bL (iz (nh "bool" (ah 1)) (iz (nh "bool" (ah 0)) (f2 kH (ah 0) (ah 1))))) (cU)) (aG (lK (iL (nh "int" (ah 1))) (bL (iz (nh "int" (ah 0)) (f2 kH (ah 0) (ah 1)))) (cU)) (aG (lK (FQ (yZ (iL (nh "tuple" (ah 0)))) (fB (f2 zm (fL gD (af (ah 0) (aq))) (fL gD (af (ah 1) (aq)))))) (bL (fC (.bl false))) (cU)) (aG (ku (sR (af (ah 0) (af (ah 1) (aq)))) (gT 2 (kI [2,3])) (aG (lK (yZ (iL (fR aM (af (ah 2) (af (ah 3) (aq)))))) (bL (fC (.bl false))) (cU)) (eD [2,3] cU))) (bL (fC (.bl true)))))))
def aM:Nat->List D->R D
 |0=>λ_=>un
 |n+1=>aN (eV (aM n)) 2 4
def ke(n:Nat):aM (n+1)=aN (eV (aM n)) 2 4:=by rw[aM]
def fm:∀n:Nat,Ar 2 (aM n)
 |0=>λ_ h=>absurd (by rw[aM]) h
 |n+1=>by rw[ke];exact aK
abbrev mh:SD:=inClass (top 22) 3
def ro:aX ["self","forms","tables","view"] ["self","forms","tables","view"] (aA mh):=‹2›
def bG:cK:=bL (aL (af (ah 3) (af (f2 aD (ah 2) (fC (.int 1))) (aq))))
abbrev km:SD:=top 17
def wu:aX ["many","rows"] ["many","rows"] (aA km):=‹2›
noncomputable def dI:cK:=bL (fL cu (af (f2 qe (ah 1) (ah 0)) (aq)))
abbrev pP:SD:=top 19
def BD:aX ["many","rows"] ["many","rows"] (aA pP):=‹2›
def ir:cK:=bL (fL wH (af (gz [none,some 0] (bi (ah 1)) (gN 0) (cF) (aL (af (bM (ah 0) (bz) (cC (ah 1))) (af (ah 0) (aq))))) (aq)))
abbrev lS:SD:=top 20
def zc:aX ["many","rows","others","taken"] ["many","rows","others"] (aA lS):=‹2›
noncomputable def dP:cK:=aG (bg 3 (fR (aN ir 2 2) (af (ah 0) (af (ah 1) (aq))))) (bL (fR (aN dI 2 2) (af (ah 0) (af (f2 bS (fL vv (af (ah 1) (aq))) (gz [none,some 0,some 3] (bi (ah 2)) (gN 0) (fB (f2 gL (bM (ah 0) (bz) (cC (ah 1))) (ah 2))) (ah 0))) (aq)))))
abbrev mw:SD:=inClass (top 23) 3
def rh:aX ["self","forms","tables","view","many","end","others","hidden","one","other"] ["self","forms","tables","view"] (aA mw):=‹2›
noncomputable def bf:cK:=aG (bg 4 (fL gD (af (f2 aD (f2 aD (ah 1) (fC (.int 0))) (fC (.int 0))) (aq)))) (aG (bg 5 (f2 bS (ah 4) (fL gD (af (f2 aD (f2 aD (ah 1) (fC (.int 0))) (fC (.int 1))) (aq))))) (aG (bg 6 (fR (aN ir 2 2) (af (ah 4) (af (f2 aD (ah 2) (fC (.int 1))) (aq))))) (aG (bg 7 (gz [none,some 4,some 6] (bi (f2 aD (ah 2) (fC (.int 0)))) (gN 0) (fB (f2 gL (bM (ah 0) (bz) (cC (ah 1))) (ah 2))) (ah 0))) (aG (bg 8 (fR (aN dP 3 4) (af (ah 4) (af (gz [none,some 5] (bi (ah 3)) (gN 0) (cF) (bM (ah 0) (bz) (cC (ah 1)))) (af (ah 7) (aq)))))) (aG (bg 9 (fR (aN dP 3 4) (af (ah 4) (af (gz [none,some 4,some 5] (bi (ah 3)) (gN 0) (cF) (f2 bS (bM (ah 0) (bz) (cC (ah 1))) (bM (ah 0) (cC (ah 2)) (bz)))) (af (f2 aD (ah 2) (fC (.int 1))) (aq)))))) (bL (aL (af (ah 8) (af (ah 9) (aq))))))))))
abbrev me:SD:=top 6
def zj:aX ["value"] ["value"] (aA me):=‹2›
def fZ:cK:=bL (iz (nh "int" (ah 0)) (ye (nh "bool" (ah 0))))
abbrev jW:SD:=top 7
def xh:aX ["value","many"] ["value","many"] (aA jW):=‹2›
def eS:cK:=bL (iz (nh "tuple" (ah 0)) (f2 kH (fL gD (af (ah 0) (aq))) (ah 1)))
abbrev j4:SD:=top 16
def xG:aX ["many","table","keys"] ["many","table"] (aA j4):=‹2›
def gW:cK:=aG (bg 2 (gz [none,some 0] (bi (ah 1)) (gN 0) (cF) (bM (ah 0) (bz) (cC (ah 1))))) (bL (fL Ac (af (gz [none,some 2] (iB (af (f2 w8 (fL gD (af (ah 2) (aq))) (fC (.int 1))) (aq))) (gN 0) (cF) (f2 ve (f2 aD (ah 1) (ah 0)) (f2 aD (ah 1) (f2 bS (ah 0) (fC (.int 1)))))) (aq))))
abbrev lZ:SD:=top 8
def zb:aX ["form"] ["form"] (aA lZ):=‹2›
abbrev tu:SD:=top 13
def FZ:aX ["kind","value"] ["kind","value"] (aA tu):=‹2›
abbrev pp:SD:=top 14
def EF:aX ["form","table","kinds"] ["form","table"] (aA pp):=‹2›
abbrev nE:SD:=top 15
def Ca:aX ["kinds","row"] ["kinds","row"] (aA nE):=‹2›
def wJ(cP cx bD:List D->R D):cK:=aG (lK (fB (f2 kH (f2 aD (ah 0) (fC (.int 0))) (fC (.str "number")))) (bL (iz (fR (aN fZ 1 1) (af (ah 1) (aq))) (sP L5 L5 (f2 aD (ah 0) (fC (.int 1))) (ah 1) (f2 aD (ah 0) (fC (.int 2)))))) (cU)) (aG (lK (fB (f2 kH (f2 aD (ah 0) (fC (.int 0))) (fC (.str "word")))) (bL (iz (nh "str" (ah 1)) (f2 Fi (ah 1) (f2 aD (ah 0) (fC (.int 1)))))) (cU)) (bL (iz (fR cx (af (f2 aD (ah 0) (fC (.int 1))) (af (ah 1) (aq)))) (FP (f2 NX (fL gD (af (ah 1) (aq))) (fC (.int 0))) (ye (f2 aD (ah 0) (fC (.int 2))))))))
def xt(cP cx bD:List D->R D):cK:=aG (lK (yZ (iL (nh "tuple" (ah 1)))) (bL (fC (.bl false))) (cU)) (aG (bg 2 (fR (aN iT 1 1) (af (ah 0) (aq)))) (bL (iz (fL Ac (af (gz [none,some 2] (bi (ah 1)) (gN 0) (cF) (fR bD (af (ah 1) (af (ah 0) (aq))))) (aq))) (fR (aN gW 2 3) (af (fL gD (af (f2 aD (ah 0) (fC (.int 0))) (aq))) (af (ah 1) (aq)))))))
def pK(cP cx bD:List D->R D):cK:=aG (lK (yZ (iL (fR (aN eS 2 2) (af (ah 1) (af (fL gD (af (ah 0) (aq))) (aq)))))) (bL (fC (.bl false))) (cU)) (bL (fL Ac (af (gz [none,none] (sR (af (ah 0) (af (ah 1) (aq)))) (gT 2 (kI [0,1])) (cF) (fR cP (af (ah 0) (af (ah 1) (aq))))) (aq))))
mutual
def cP:Nat->List D->R D
 |0=>λ_=>un
 |n+1=>aN (wJ (cP n) (cx n) (bD n)) 2 2
def cx:Nat->List D->R D
 |0=>λ_=>un
 |n+1=>aN (xt (cP n) (cx n) (bD n)) 2 3
def bD:Nat->List D->R D
 |0=>λ_=>un
 |n+1=>aN (pK (cP n) (cx n) (bD n)) 2 2
end
def nu(n:Nat):cP (n+1)=aN (wJ (cP n) (cx n) (bD n)) 2 2:=by rw[cP]
def qX:∀n:Nat,Ar 2 (cP n)
 |0=>λ_ h=>absurd (by rw[cP]) h
 |n+1=>by rw[nu];exact aK
def pZ(n:Nat):cx (n+1)=aN (xt (cP n) (cx n) (bD n)) 2 3:=by rw[cx]
def o3:∀n:Nat,Ar 2 (cx n)
 |0=>λ_ h=>absurd (by rw[cx]) h
 |n+1=>by rw[pZ];exact aK
def kB(n:Nat):bD (n+1)=aN (pK (cP n) (cx n) (bD n)) 2 2:=by rw[bD]
def ki:∀n:Nat,Ar 2 (bD n)
 |0=>λ_ h=>absurd (by rw[bD]) h
 |n+1=>by rw[kB];exact aK
abbrev jA:SD:=top 11
def uJ:aX ["one","other","words"] ["one","other"] (aA jA):=‹2›
def ia:cK:=aG (bg 2 (fL cu (af (gz [none,some 1] (bi (f2 aD (ah 0) (fC (.int 1)))) (gN 0) (fB (f2 Fi (ah 0) (f2 aD (ah 1) (fC (.int 1))))) (ah 0)) (aq)))) (bL (K3 (iL (ah 2)) (aL (af (fC (.str "word")) (af (ah 2) (aq)))) (fC .non)))
abbrev ic:SD:=top 10
def rX:aX ["one","other","low","high"] ["one","other"] (aA ic):=‹2›
def ga:cK:=aG (bg 2 (fL pB (af (f2 aD (ah 0) (fC (.int 1))) (af (f2 aD (ah 1) (fC (.int 1))) (aq))))) (aG (bg 3 (fL oS (af (f2 aD (ah 0) (fC (.int 2))) (af (f2 aD (ah 1) (fC (.int 2))) (aq))))) (bL (K3 (fB (f2 L5 (ah 2) (ah 3))) (aL (af (fC (.str "number")) (af (ah 2) (af (ah 3) (aq))))) (fC .non))))
abbrev xf:SD:=top 9
def Gf:aX ["one","other"] ["one","other"] (aA xf):=‹2›
def qz:cK:=aG (lK (fB (f2 zm (f2 aD (ah 0) (fC (.int 0))) (f2 aD (ah 1) (fC (.int 0))))) (bL (fC .non)) (cU)) (aG (lK (fB (f2 kH (f2 aD (ah 0) (fC (.int 0))) (fC (.str "number")))) (bL (fR (aN ga 2 4) (af (ah 0) (af (ah 1) (aq))))) (cU)) (aG (lK (fB (f2 kH (f2 aD (ah 0) (fC (.int 0))) (fC (.str "word")))) (bL (fR (aN ia 2 3) (af (ah 0) (af (ah 1) (aq))))) (cU)) (bL (fC .non))))
abbrev jv:SD:=top 24
def uL:aX ["one","other","kinds"] ["one","other"] (aA jv):=‹2›
def iA:cK:=aG (lK (fB (f2 zm (gz [none] (bi (ah 0)) (gN 0) (cF) (f2 aD (ah 0) (fC (.int 0)))) (gz [none] (bi (ah 1)) (gN 0) (cF) (f2 aD (ah 0) (fC (.int 0)))))) (yJ) (cU)) (aG (lK (fB (f2 zm (gz [none] (bi (ah 0)) (gN 0) (cF) (f2 aD (f2 aD (ah 0) (fC (.int 1))) (fC (.int 0)))) (gz [none] (bi (ah 1)) (gN 0) (cF) (f2 aD (f2 aD (ah 0) (fC (.int 1))) (fC (.int 0)))))) (yJ) (cU)) (aG (bg 2 (gz [none,none] (sR (af (ah 0) (af (ah 1) (aq)))) (gT 2 (kI [0,1])) (cF) (fR (aN qz 2 2) (af (f2 aD (ah 0) (fC (.int 1))) (af (f2 aD (ah 1) (fC (.int 1))) (aq)))))) (aG (lK (fB (f2 Fi (fC .non) (ah 2))) (yJ) (cU)) (bL (fL cu (af (gz [none,none] (sR (af (ah 0) (af (ah 2) (aq)))) (gT 2 (kI [0,1])) (cF) (aL (af (f2 aD (ah 0) (fC (.int 0))) (af (ah 1) (aq))))) (aq)))))))
abbrev ko:SD:=top 27
def wO:aX ["forms","table","seen","key","kinds"] ["forms","table","seen"] (aA ko):=‹2›
def eT:cK:=aG (bg 3 (fR (aN iA 2 3) (af (f2 aD (f2 aD (ah 0) (fC (.int 0))) (fC (.int 0))) (af (bM (f2 aD (f2 aD (ah 0) (fC (.int 1))) (fC (.int 0))) (bz) (cC (fL gD (af (f2 aD (f2 aD (ah 0) (fC (.int 0))) (fC (.int 0))) (aq))))) (aq))))) (aG (bg 4 (gz [none] (bi (ah 3)) (gN 0) (cF) (f2 aD (ah 0) (fC (.int 1))))) (bL (gz [none,some 4,some 2] (bi (ah 1)) (gN 0) (fB (f2 kH (fR (bD 12) (af (ah 1) (af (bM (ah 0) (bz) (cC (fL gD (af (ah 1) (aq))))) (aq)))) (ah 2))) (ah 0))))
abbrev jw:SD:=inClass (top 26) 4
def oO:aX ["self","forms","tables","view","many","one","gone","rows","row"] ["self","forms","tables","view"] (aA jw):=‹2›
noncomputable def aR:cK:=aG (bg 4 (fL gD (af (f2 aD (f2 aD (ah 1) (fC (.int 0))) (fC (.int 0))) (aq)))) (aG (bg 5 (fR (aN dP 3 4) (af (ah 4) (af (gz [none] (bi (ah 3)) (gN 0) (cF) (bM (ah 0) (bz) (cC (uQ (fC (.int 1)))))) (af (fR (aN eT 3 5) (af (ah 1) (af (f2 aD (ah 2) (fC (.int 0))) (af (fC (.bl false)) (aq))))) (aq)))))) (aG (bg 6 (fR (aN ir 2 2) (af (ah 4) (af (f2 bS (fL vv (af (ah 3) (aq))) (fR (aN eT 3 5) (af (ah 1) (af (f2 aD (ah 2) (fC (.int 0))) (af (fC (.bl true)) (aq)))))) (aq))))) (aG (jU 7 (gz [none,some 4,some 6] (bi (f2 aD (ah 2) (fC (.int 1)))) (gN 0) (fB (f2 gL (bM (ah 0) (bz) (cC (ah 1))) (ah 2))) (ah 0))) (eD [0,2,6] (aG (ku (bi (ah 3)) (gN 8) (aG (CD 7 (gz [none,some 8,some 4] (bi (f2 aD (ah 8) (uQ (fC (.int 1))))) (gN 0) (cF) (f2 bS (bM (ah 1) (bz) (cC (ah 2))) (ah 0)))) (eD [8] cU))) (fY 7 (bL (aL (af (ah 5) (af (fR (aN dI 2 2) (af (fL gD (af (f2 aD (f2 aD (ah 1) (fC (.int 1))) (fC (.int 0))) (aq))) (af (ah 7) (aq)))) (aq)))))))))))
abbrev jZ:SD:=top 30
def xM:aX ["_law_x"] ["_law_x"] (aA jZ):=‹2›
abbrev i9:SD:=top 38
def ud:aX ["_law_many","_law_rows_here","_law_found","_law_row_here"] ["_law_many","_law_rows_here"] (aA i9):=‹2›
noncomputable def cz:cK:=aG (jU 2 uh) (aG (ku (bi (ah 1)) (gN 3) (aG (uy 2 (bM (ah 3) (bz) (cC (ah 0))) (ah 3)) (eD [3] cU))) (fY 2 (bL (fL cu (af (gz [none,some 2] (bi (fL eU (af (fL lV (af (ah 2) (aq))) (aq)))) (gN 0) (cF) (f2 zv (ah 1) (ah 0))) (aq))))))
abbrev iC:SD:=top 36
def uS:aX ["_law_kind_here","_law_x"] ["_law_kind_here","_law_x"] (aA iC):=‹2›
abbrev jL:SD:=top 37
def yg:aX ["_law_form_here","_law_many","_law_head","_law_tail","_law_row_here","_law_name_here","_law_kind_here"] ["_law_form_here","_law_many","_law_head","_law_tail"] (aA jL):=‹2›
abbrev jh:SD:=top 39
def wI:aX ["_law_form_here","_law_x","_law_many","_law_rows_here","_law_k"] ["_law_form_here","_law_x","_law_many"] (aA jh):=‹2›
noncomputable def ie(aI aZ bb:List D->R D):cK:=aG (lK (fB (f2 kH (f2 aD (ah 0) (fC (.int 0))) (fC (.str "number")))) (bL (f2 bS (f2 aD (ah 0) (fC (.int 1))) (f2 cB (f2 lj (ah 1) (fC (.int 7))) (f2 bS (f2 w8 (f2 aD (ah 0) (fC (.int 2))) (f2 aD (ah 0) (fC (.int 1)))) (fC (.int 1)))))) (cU)) (aG (lK (fB (f2 kH (f2 aD (ah 0) (fC (.int 0))) (fC (.str "word")))) (bL (f2 aD (f2 aD (ah 0) (fC (.int 1))) (f2 cB (ah 1) (fL gD (af (f2 aD (ah 0) (fC (.int 1))) (aq)))))) (cU)) (bL (fR bb (af (f2 aD (ah 0) (fC (.int 1))) (af (f2 dg (ah 1) (fC (.int 3))) (af (fL pB (af (f2 cB (ah 1) (fC (.int 3))) (af (fL A9 (af (f2 aD (ah 0) (fC (.int 2))) (aq))) (aq)))) (aq)))))))
noncomputable def lY(aI aZ bb:List D->R D):cK:=aG (jU 4 (gE (aq))) (aG (ku (bi (f2 bS (f2 aD (ah 0) (fC (.int 0))) (f2 aD (ah 0) (fC (.int 1))))) (gT 2 (kI [5,6])) (aG (lK (nH [4] (fB (f2 ve (fL gD (af (ah 4) (aq))) (ah 1)))) (aG (bg 2 (fR (aN aJ 1 1) (af (ah 2) (aq)))) (yA 4 gh (af (fR aI (af (ah 6) (af (ah 2) (aq)))) (aq)))) (aG (bg 3 (fR (aN aJ 1 1) (af (ah 3) (aq)))) (yA 4 gh (af (fR aI (af (ah 6) (af (ah 3) (aq)))) (aq))))) (eD [5,6] cU))) (fY 4 (bL (fL cu (af (ah 4) (aq))))))
noncomputable def kj(aI aZ bb:List D->R D):cK:=aG (jU 3 (gE (aq))) (aG (ku (iB (af (ah 2) (aq))) (gN 4) (aG (bg 1 (fR (aN aJ 1 1) (af (ah 1) (aq)))) (aG (yA 3 gh (af (fR aZ (af (ah 0) (af (fC (.int 0)) (af (fC (.int 0)) (af (ah 1) (aq)))))) (aq))) (eD [4] cU)))) (fY 3 (bL (fR (aN cz 2 4) (af (fL gD (af (f2 aD (ah 0) (fC (.int 0))) (aq))) (af (ah 3) (aq)))))))
mutual
noncomputable def aI:Nat->List D->R D
 |0=>λ_=>un
 |n+1=>aN (ie (aI n) (aZ n) (bb n)) 2 2
noncomputable def aZ:Nat->List D->R D
 |0=>λ_=>un
 |n+1=>aN (lY (aI n) (aZ n) (bb n)) 4 7
noncomputable def bb:Nat->List D->R D
 |0=>λ_=>un
 |n+1=>aN (kj (aI n) (aZ n) (bb n)) 3 5
end
def fJ(n:Nat):aI (n+1)=aN (ie (aI n) (aZ n) (bb n)) 2 2:=by rw[aI]
def jk:∀n:Nat,Ar 2 (aI n)
 |0=>λ_ h=>absurd (by rw[aI]) h
 |n+1=>by rw[fJ];exact aK
def jl(n:Nat):aZ (n+1)=aN (lY (aI n) (aZ n) (bb n)) 4 7:=by rw[aZ]
def i7:∀n:Nat,Ar 4 (aZ n)
 |0=>λ_ h=>absurd (by rw[aZ]) h
 |n+1=>by rw[jl];exact aK
def iK(n:Nat):bb (n+1)=aN (kj (aI n) (aZ n) (bb n)) 3 5:=by rw[bb]
def jO:∀n:Nat,Ar 3 (bb n)
 |0=>λ_ h=>absurd (by rw[bb]) h
 |n+1=>by rw[iK];exact aK
abbrev i6:SD:=top 46
def tN:aX ["_law_fields","_law_x"] ["_law_fields","_law_x"] (aA i6):=‹2›
noncomputable def cD:cK:=bL (fR (aZ 12) (af (aL (af (fL cu (af (ah 0) (aq))) (af (aL (aq)) (aq)))) (af (fC (.int 0)) (af (fC (.int 0)) (af (ah 1) (aq))))))
abbrev iw:SD:=top 29
def rR:aX ["_law_script","_law_k"] ["_law_script","_law_k"] (aA iw):=‹2›
abbrev j5:SD:=top 31
def wo:aX ["_law_script","_law_k","_law_x"] ["_law_script","_law_k"] (aA j5):=‹2›
abbrev il:SD:=top 50
def rM:aX ["_law_many","_law_fields","_law_script","_law_rows_here","_law_k"] ["_law_many","_law_fields","_law_script"] (aA il):=‹2›
noncomputable def dQ:cK:=aG (jU 3 (gE (aq))) (aG (ku (sf (af (fC (.int 2)) (af (fL oS (af (fL pB (af (fL gD (af (ah 2) (aq))) (af (fC (.int 3)) (aq)))) (af (fC (.int 20)) (aq)))) (aq)))) (gN 4) (aG (yA 3 gh (af (fR (aN cD 2 2) (af (ah 1) (af (fR (aN bV 2 3) (af (ah 2) (af (ah 4) (aq)))) (aq)))) (aq))) (eD [4] cU))) (fY 3 (bL (fR (aN cz 2 4) (af (ah 0) (af (ah 3) (aq)))))))
abbrev hJ:SD:=top 43
def rN:aX ["_law_one","_law_other"] ["_law_one","_law_other"] (aA hJ):=‹2›
def eP:cK:=aG (lK (fB (f2 kH (f2 aD (ah 0) (fC (.int 0))) (fC (.str "number")))) (bL (aL (af (fC (.str "number")) (af (fL pB (af (f2 aD (ah 0) (fC (.int 1))) (af (f2 aD (ah 1) (fC (.int 1))) (aq)))) (af (fL oS (af (f2 aD (ah 0) (fC (.int 2))) (af (f2 aD (ah 1) (fC (.int 2))) (aq)))) (aq)))))) (cU)) (bL (aL (af (fC (.str "word")) (af (fL cu (af (gz [none,some 1] (bi (f2 aD (ah 0) (fC (.int 1)))) (gN 0) (fB (f2 Fi (ah 0) (f2 aD (ah 1) (fC (.int 1))))) (ah 0)) (aq))) (aq)))))
abbrev eY:SD:=top 45
def oF:aX ["_law_one","_law_other","_law_found","_law_field","_law_more"] ["_law_one","_law_other"] (aA eY):=‹2›
def ce:cK:=aG (jU 2 (gE (aq))) (aG (ku (sR (af (f2 aD (ah 0) (fC (.int 0))) (af (f2 aD (ah 1) (fC (.int 0))) (aq)))) (gT 2 (kI [3,4])) (aG (yA 2 gh (af (aL (af (f2 aD (ah 3) (fC (.int 0))) (af (fR (aN eP 2 2) (af (f2 aD (ah 3) (fC (.int 1))) (af (f2 aD (ah 4) (fC (.int 1))) (aq)))) (aq)))) (aq))) (eD [3,4] cU))) (fY 2 (bL (fL cu (af (ah 2) (aq))))))
abbrev dS:SD:=top 52
def mC:aX ["_law_one","_law_other","_law_name_here","_law_script","_law_many","_law_key","_law_orphans","_law_x","_law_firsts","_law_row_here","_law_view","_law_begin","_law_pair","_law_first","_law_second","_law_alone"] ["_law_one","_law_other","_law_name_here","_law_script"] (aA dS):=‹2›
noncomputable def cS:cK:=aG (bg 4 (fL gD (af (f2 aD (ah 0) (fC (.int 0))) (aq)))) (aG (bg 5 (fR (aN ce 2 5) (af (ah 0) (af (ah 1) (aq))))) (aG (bg 6 (fR (aN dQ 3 5) (af (fL gD (af (f2 aD (ah 1) (fC (.int 0))) (aq))) (af (f2 bS (f2 bS (ah 5) (bM (f2 aD (ah 1) (fC (.int 0))) (cC (ah 4)) (bz))) (f2 aD (ah 1) (fC (.int 1)))) (af (ah 3) (aq)))))) (aG (bg 7 (fR (aN bV 2 3) (af (ah 3) (af (fC (.int 2)) (aq))))) (aG (jU 8 uh) (eD [3,5] (aG (ku (bi (ah 6)) (gN 9) (aG (uy 8 (bM (ah 9) (bz) (cC (ah 4))) (fC (.bl true))) (eD [9] cU))) (aG (jU 10 (gE (aq))) (fY 8 (eD [3,4,5,9] (aG (ku (bi (fL eU (af (fL lV (af (ah 8) (aq))) (aq)))) (gN 11) (aG (bg 7 (fR (aN aJ 1 1) (af (ah 7) (aq)))) (aG (yA 10 gh (af (f2 bS (f2 bS (ah 11) (fR (aN cD 2 2) (af (f2 aD (ah 0) (fC (.int 1))) (af (ah 7) (aq))))) (aL (af (aL (aq)) (aq)))) (aq))) (eD [11] cU)))) (aG (bg 12 (fNew "Gather" ["name"] (af (ah 2) (aq)))) (fY 10 (aG (bg 13 (dN "put" [("Pair",(aN bG 4 4)),("Join",(aN bf 4 10)),("Gather",(aN aR 4 9))] (ah 12) (af (aL (af (ah 0) (af (ah 1) (aq)))) (af (aL (af (aL (aq)) (af (ah 6) (aq)))) (af (fL cu (af (ah 10) (aq))) (aq)))))) (aG (bg 14 (dN "put" [("Pair",(aN bG 4 4)),("Join",(aN bf 4 10)),("Gather",(aN aR 4 9))] (ah 12) (af (aL (af (ah 0) (af (ah 1) (aq)))) (af (ah 13) (af (aL (aq)) (aq)))))) (aG (bg 15 (dN "put" [("Pair",(aN bG 4 4)),("Join",(aN bf 4 10)),("Gather",(aN aR 4 9))] (ah 12) (af (aL (af (ah 0) (af (ah 1) (aq)))) (af (aL (af (aL (aq)) (af (ah 6) (aq)))) (af (aL (aq)) (aq)))))) (bL (iz (fR (aM 12) (af (ah 14) (af (aL (af (aL (aq)) (af (aL (aq)) (aq)))) (aq)))) (fR (aM 12) (af (ah 15) (af (aL (af (aL (aq)) (af (ah 6) (aq)))) (aq)))))))))))))))))))))
abbrev kn:SD:=top 32
def xI:aX ["_law_base","_law_k","_law_letters","_law_size","_law_name_here","_law_j","_law_step"] ["_law_base","_law_k"] (aA kn):=‹2›
abbrev eh:SD:=top 49
def mL:aX ["_law_one","_law_other","_law_script","_law_x","_law_base","_law_taken","_law_some"] ["_law_one","_law_other","_law_script"] (aA eh):=‹2›
def df:cK:=aG (bg 3 (fR (aN aJ 1 1) (af (fR (aN bV 2 3) (af (ah 2) (af (fC (.int 1)) (aq)))) (aq)))) (aG (bg 4 (f2 cB (f2 oI (fR (aN cf 2 2) (af (ah 2) (af (fC (.int 1)) (aq)))) (fC (.int 48271))) (fC (.int 2147483647)))) (aG (bg 5 (gz [none,none] (bi (f2 bS (f2 aD (ah 0) (fC (.int 0))) (f2 aD (ah 0) (fC (.int 1))))) (gT 2 (kI [0,1])) (cF) (ah 0))) (aG (bg 6 (f2 bS (gz [none,none] (bi (f2 bS (f2 aD (ah 1) (fC (.int 0))) (f2 aD (ah 1) (fC (.int 1))))) (gT 2 (kI [0,1])) (cF) (ah 0)) (gE (af (fR (aN bU 2 7) (af (ah 4) (af (fC (.int 22)) (aq)))) (af (fR (aN bU 2 7) (af (ah 4) (af (fC (.int 23)) (aq)))) (aq)))))) (aG (bg 6 (gz [none,some 5] (bi (ah 6)) (gN 0) (fB (f2 sV (ah 0) (ah 1))) (ah 0))) (bL (f2 aD (ah 6) (f2 cB (ah 3) (fL gD (af (ah 6) (aq))))))))))
abbrev jy:SD:=top 33
def uO:aX ["_law_x","_law_low","_law_letters","_law_one","_law_other","_law_some","_law_kept","_law_k"] ["_law_x"] (aA jy):=‹2›
abbrev jj:SD:=top 34
def xA:aX ["_law_x","_law_base","_law_deep","_law_inner"] ["_law_x","_law_base","_law_deep"] (aA jj):=‹2›
abbrev ji:SD:=top 35
def xK:aX ["_law_x","_law_base","_law_start","_law_many","_law_more","_law_deep","_law_key","_law_rest","_law_k"] ["_law_x","_law_base","_law_start","_law_many","_law_more","_law_deep"] (aA ji):=‹2›
noncomputable def jc(bu aS:List D->R D):cK:=aG (lK (FQ (fB (f2 kH (ah 2) (fC (.int 0)))) (fB (f2 ve (f2 cB (ah 0) (fC (.int 3))) (fC (.int 2))))) (bL (fR (aN dF 1 8) (af (f2 dg (ah 0) (fC (.int 3))) (aq)))) (cU)) (aG (bg 3 (fR aS (af (f2 dg (ah 0) (fC (.int 3))) (af (ah 1) (af (f2 cB (f2 dg (ah 0) (fC (.int 36))) (fC (.int 12))) (af (f2 bS (fC (.int 1)) (f2 cB (f2 dg (ah 0) (fC (.int 3))) (fC (.int 2)))) (af (f2 cB (f2 dg (ah 0) (fC (.int 6))) (fC (.int 3))) (af (f2 w8 (ah 2) (fC (.int 1))) (aq))))))))) (bL (aL (af (fC (.str "rows")) (af (ah 3) (af (f2 kH (f2 cB (f2 dg (ah 0) (fC (.int 18))) (fC (.int 2))) (fC (.int 1))) (aq)))))))
noncomputable def j8(bu aS:List D->R D):cK:=aG (jU 6 (gE (aq))) (aG (jU 7 (gE (aq))) (aG (ku (iB (af (f2 bS (ah 3) (ah 4)) (aq))) (gN 8) (aG (bg 0 (fR (aN aJ 1 1) (af (ah 0) (aq)))) (aG (lK (fB (f2 ve (ah 8) (ah 3))) (yA 6 gh (af (aL (af (fR (aN bU 2 7) (af (ah 1) (af (f2 bS (ah 2) (ah 8)) (aq)))) (af (fR (aN dF 1 8) (af (ah 0) (aq))) (aq)))) (aq))) (yA 7 gh (af (aL (af (fR (aN bU 2 7) (af (ah 1) (af (f2 bS (ah 2) (ah 8)) (aq)))) (af (fR bu (af (ah 0) (af (ah 1) (af (ah 5) (aq))))) (aq)))) (aq)))) (eD [8] cU)))) (fY 7 (fY 6 (bL (aL (af (fL cu (af (ah 6) (aq))) (af (fL cu (af (ah 7) (aq))) (aq)))))))))
mutual
noncomputable def bu:Nat->List D->R D
 |0=>λ_=>un
 |n+1=>aN (jc (bu n) (aS n)) 3 4
noncomputable def aS:Nat->List D->R D
 |0=>λ_=>un
 |n+1=>aN (j8 (bu n) (aS n)) 6 9
end
def gq(n:Nat):bu (n+1)=aN (jc (bu n) (aS n)) 3 4:=by rw[bu]
def mO:∀n:Nat,Ar 3 (bu n)
 |0=>λ_ h=>absurd (by rw[bu]) h
 |n+1=>by rw[gq];exact aK
def iF(n:Nat):aS (n+1)=aN (j8 (bu n) (aS n)) 6 9:=by rw[aS]
def eK:∀n:Nat,Ar 6 (aS n)
 |0=>λ_ h=>absurd (by rw[aS]) h
 |n+1=>by rw[iF];exact aK
abbrev fW:SD:=top 41
def oX:aX ["_law_x","_law_letters","_law_one","_law_other","_law_kept","_law_word"] ["_law_x"] (aA fW):=‹2›
noncomputable def d9:cK:=aG (bg 1 (fC (.str "abcdefghijklmnopqrstuvwxyz"))) (aG (bg 2 (f2 aD (ah 1) (f2 cB (ah 0) (fC (.int 26))))) (aG (bg 3 (f2 aD (ah 1) (f2 cB (f2 dg (ah 0) (fC (.int 26))) (fC (.int 26))))) (aG (jU 4 uh) (eD [0,1] (aG (ku (bi (gE (af (fC (.str "")) (af (ah 2) (af (ah 3) (af (f2 bS (ah 2) (ah 3)) (af (f2 bS (ah 3) (ah 2)) (af (f2 ub (ah 2) (fC (.int 8))) (af (f2 bS (ah 2) (ah 2)) (af (f2 ub (ah 3) (fC (.int 3))) (aq))))))))))) (gN 5) (aG (oK 4 (ah 5) (fC (.bl true))) (eD [5] cU))) (fY 4 (bL (fL eU (af (fL mR (af (ah 4) (aq))) (aq))))))))))
abbrev gx:SD:=top 42
def pT:aX ["_law_x","_law_y","_law_low","_law_wide","_law_far","_law_one","_law_other","_law_some","_law_spare"] ["_law_x"] (aA gx):=‹2›
noncomputable def eM:cK:=aG (bg 1 (fR (aN aJ 1 1) (af (ah 0) (aq)))) (aG (bg 2 (f2 aD (gE (af (fC (.int 0)) (af (uQ (fC (.int 3))) (af (f2 w8 (fC (.int 0)) (f2 cB (f2 lj (ah 1) (fC (.int 7))) (f2 lj (fC (.int 10)) (fC (.int 59))))) (af (f2 cB (f2 lj (ah 1) (fC (.int 7))) (f2 lj (fC (.int 10)) (fC (.int 59)))) (aq)))))) (f2 cB (f2 dg (ah 0) (fC (.int 3))) (fC (.int 4))))) (aG (bg 3 (f2 aD (gE (af (fC (.int 0)) (af (fC (.int 1)) (af (fC (.int 6)) (af (f2 lj (fC (.int 10)) (fC (.int 59))) (aq)))))) (f2 cB (f2 dg (ah 0) (fC (.int 12))) (fC (.int 4))))) (aG (bg 4 (f2 cB (f2 lj (ah 1) (fC (.int 7))) (f2 bS (ah 3) (fC (.int 1))))) (aG (bg 5 (aL (af (fC (.str "number")) (af (ah 2) (af (f2 bS (ah 2) (ah 3)) (aq)))))) (aG (bg 6 (aL (af (fC (.str "number")) (af (f2 bS (ah 2) (ah 4)) (af (f2 bS (f2 bS (ah 2) (ah 4)) (f2 aD (gE (af (fC (.int 0)) (af (fC (.int 2)) (af (fC (.int 9)) (af (f2 lj (fC (.int 10)) (fC (.int 59))) (aq)))))) (f2 cB (f2 dg (ah 0) (fC (.int 48))) (fC (.int 4))))) (aq)))))) (aG (lK (fB (f2 kH (f2 cB (ah 0) (fC (.int 3))) (fC (.int 2)))) (aG (bg 7 (fR (aN d9 1 6) (af (f2 dg (ah 0) (fC (.int 3))) (aq)))) (aG (bg 8 (f2 aD (ah 7) (f2 cB (ah 1) (fL gD (af (ah 7) (aq)))))) (aG (bg 5 (aL (af (fC (.str "word")) (af (fL cu (af (gz [none,none,some 8,some 1] (iQ (af (ah 7) (aq))) (gT 2 (kI [0,1])) (FQ (fB (f2 kH (ah 1) (ah 2))) (fB (f2 kH (f2 tX (f2 zO (f2 dg (ah 3) (fC (.int 9))) (ah 0)) (fC (.int 1))) (fC (.int 1))))) (ah 1)) (aq))) (aq))))) (bg 6 (aL (af (fC (.str "word")) (af (fL cu (af (gz [none,none,some 8,some 1] (iQ (af (ah 7) (aq))) (gT 2 (kI [0,1])) (FQ (fB (f2 kH (ah 1) (ah 2))) (fB (f2 kH (f2 tX (f2 zO (f2 dg (ah 3) (fC (.int 3000))) (ah 0)) (fC (.int 1))) (fC (.int 1))))) (ah 1)) (aq))) (aq)))))))) (cU)) (aG (lK (fB (f2 kH (f2 cB (f2 dg (ah 0) (fC (.int 200))) (fC (.int 2))) (fC (.int 1)))) (bL (aL (af (ah 6) (af (ah 5) (aq))))) (cU)) (bL (aL (af (ah 5) (af (ah 6) (aq))))))))))))
abbrev gK:SD:=top 44
def qj:aX ["_law_x","_law_base","_law_many","_law_one","_law_other","_law_k","_law_kinds"] ["_law_x","_law_base","_law_many"] (aA gK):=‹2›
noncomputable def du:cK:=aG (jU 3 (gE (aq))) (aG (jU 4 (gE (aq))) (aG (ku (iB (af (ah 2) (aq))) (gN 5) (aG (bg 0 (fR (aN aJ 1 1) (af (ah 0) (aq)))) (aG (bg 6 (fR (aN eM 1 9) (af (ah 0) (aq)))) (aG (yA 3 gh (af (aL (af (fR (aN bU 2 7) (af (ah 1) (af (ah 5) (aq)))) (af (f2 aD (ah 6) (fC (.int 0))) (aq)))) (aq))) (aG (yA 4 gh (af (aL (af (fR (aN bU 2 7) (af (ah 1) (af (ah 5) (aq)))) (af (f2 aD (ah 6) (fC (.int 1))) (aq)))) (aq))) (eD [5,6] cU)))))) (fY 4 (fY 3 (bL (aL (af (fL cu (af (ah 3) (aq))) (af (fL cu (af (ah 4) (aq))) (aq)))))))))
abbrev dU:SD:=top 48
def lR:aX ["_law_script","_law_x","_law_base","_law_many","_law_keys","_law_deep","_law_more","_law_first","_law_wide","_law_inner"] ["_law_script"] (aA dU):=‹2›
noncomputable def cT:cK:=aG (bg 1 (fR (aN bV 2 3) (af (ah 0) (af (fC (.int 0)) (aq))))) (aG (bg 2 (f2 cB (f2 oI (fR (aN cf 2 2) (af (ah 0) (af (fC (.int 1)) (aq)))) (fC (.int 48271))) (fC (.int 2147483647)))) (aG (bg 3 (f2 aD (gE (af (fC (.int 1)) (af (fC (.int 2)) (af (fC (.int 1)) (af (fC (.int 3)) (af (fC (.int 2)) (af (fC (.int 1)) (af (fC (.int 2)) (af (f2 bS (fC (.int 1)) (f2 cB (f2 dg (ah 1) (fC (.int 64))) (fC (.int 7)))) (aq)))))))))) (f2 cB (ah 1) (fC (.int 8))))) (aG (bg 4 (fR (aN du 3 7) (af (fR (aN aJ 1 1) (af (ah 1) (aq))) (af (ah 2) (af (ah 3) (aq)))))) (aG (bg 5 (f2 aD (gE (af (fC (.int 0)) (af (fC (.int 0)) (af (fC (.int 1)) (af (fC (.int 2)) (aq)))))) (f2 cB (f2 dg (ah 1) (fC (.int 8))) (fC (.int 4))))) (aG (bg 6 (f2 cB (f2 dg (ah 1) (fC (.int 512))) (fC (.int 4)))) (aG (lK (fB (f2 kH (f2 cB (f2 dg (ah 1) (fC (.int 32))) (fC (.int 8))) (fC (.int 3)))) (aG (bg 6 (f2 cB (f2 dg (ah 1) (fC (.int 512))) (fC (.int 8)))) (bg 5 (fC (.int 0)))) (cU)) (aG (bg 7 (f2 aD (fR (aS 12) (af (f2 bS (fR (aN aJ 1 1) (af (ah 1) (aq))) (fC (.int 1))) (af (ah 2) (af (fC (.int 8)) (af (fC (.int 0)) (af (ah 6) (af (ah 5) (aq)))))))) (fC (.int 1)))) (aG (bg 8 (f2 bS (fC (.int 1)) (f2 cB (f2 dg (ah 1) (fC (.int 4096))) (fL oS (af (fC (.int 3)) (af (f2 w8 (fC (.int 8)) (ah 3)) (aq))))))) (aG (bg 9 (fR (aS 12) (af (f2 bS (fR (aN aJ 1 1) (af (ah 1) (aq))) (fC (.int 2))) (af (ah 2) (af (f2 aD (gE (af (fC (.int 8)) (af (fC (.int 15)) (aq)))) (f2 cB (f2 dg (ah 1) (fC (.int 2048))) (fC (.int 2)))) (af (ah 8) (af (f2 cB (f2 dg (ah 1) (fC (.int 16384))) (fC (.int 4))) (af (ah 5) (aq))))))))) (bL (aL (af (aL (af (f2 aD (ah 4) (fC (.int 0))) (af (ah 7) (aq)))) (af (aL (af (f2 bS (f2 aD (ah 4) (fC (.int 1))) (f2 aD (ah 9) (fC (.int 0)))) (af (f2 aD (ah 9) (fC (.int 1))) (aq)))) (aq))))))))))))))
abbrev eF:SD:=top 51
def ny:aX ["_law_one","_law_other","_law_script","_law_many","_law_wide","_law_view","_law_pair","_law_first","_law_second","_law_due"] ["_law_one","_law_other","_law_script"] (aA eF):=‹2›
noncomputable def dC:cK:=aG (bg 3 (fL gD (af (f2 aD (ah 0) (fC (.int 0))) (aq)))) (aG (bg 4 (f2 bS (ah 3) (fL gD (af (f2 aD (ah 0) (fC (.int 1))) (aq))))) (aG (bg 5 (fR (aN dQ 3 5) (af (ah 3) (af (f2 bS (f2 bS (fR (aN ce 2 5) (af (ah 0) (af (ah 1) (aq)))) (f2 aD (ah 0) (fC (.int 1)))) (f2 aD (ah 1) (fC (.int 1)))) (af (ah 2) (aq)))))) (aG (bg 6 (fC (.obj "Join" [] []))) (aG (bg 7 (dN "put" [("Pair",(aN bG 4 4)),("Join",(aN bf 4 10)),("Gather",(aN aR 4 9))] (ah 6) (af (aL (af (ah 0) (af (ah 1) (aq)))) (af (aL (af (aL (aq)) (af (aL (aq)) (aq)))) (af (ah 5) (aq)))))) (aG (bg 8 (dN "put" [("Pair",(aN bG 4 4)),("Join",(aN bf 4 10)),("Gather",(aN aR 4 9))] (ah 6) (af (aL (af (ah 0) (af (ah 1) (aq)))) (af (ah 7) (af (aL (aq)) (aq)))))) (aG (bg 9 (fL cu (af (gz [none,some 3,some 4] (bi (ah 5)) (gN 0) (cF) (f2 bS (bM (ah 0) (bz) (cC (ah 1))) (bM (ah 0) (cC (ah 2)) (bz)))) (aq)))) (bL (iz (fR (aM 12) (af (ah 8) (af (aL (af (aL (aq)) (af (ah 9) (aq)))) (aq)))) (fR (aM 12) (af (dN "put" [("Pair",(aN bG 4 4)),("Join",(aN bf 4 10)),("Gather",(aN aR 4 9))] (ah 6) (af (aL (af (ah 0) (af (ah 1) (aq)))) (af (aL (af (aL (aq)) (af (aL (aq)) (aq)))) (af (aL (aq)) (aq))))) (af (aL (af (aL (aq)) (af (aL (aq)) (aq)))) (aq))))))))))))
abbrev eE:SD:=top 47
def mV:aX ["_law_script","_law_x","_law_base","_law_keys","_law_deep","_law_more","_law_first","_law_last"] ["_law_script"] (aA eE):=‹2›
noncomputable def dB:cK:=aG (bg 1 (fR (aN bV 2 3) (af (ah 0) (af (fC (.int 0)) (aq))))) (aG (bg 2 (f2 cB (f2 oI (fR (aN cf 2 2) (af (ah 0) (af (fC (.int 1)) (aq)))) (fC (.int 48271))) (fC (.int 2147483647)))) (aG (bg 3 (fR (aN du 3 7) (af (fR (aN aJ 1 1) (af (ah 1) (aq))) (af (ah 2) (af (f2 aD (gE (af (fC (.int 1)) (af (fC (.int 2)) (af (fC (.int 1)) (af (fC (.int 3)) (af (fC (.int 2)) (af (fC (.int 1)) (af (fC (.int 2)) (af (f2 bS (fC (.int 1)) (f2 cB (f2 dg (ah 1) (fC (.int 64))) (fC (.int 8)))) (aq)))))))))) (f2 cB (ah 1) (fC (.int 8)))) (aq)))))) (aG (bg 4 (f2 aD (gE (af (fC (.int 0)) (af (fC (.int 0)) (af (fC (.int 1)) (af (fC (.int 2)) (aq)))))) (f2 cB (f2 dg (ah 1) (fC (.int 8))) (fC (.int 4))))) (aG (bg 5 (gE (af (f2 cB (f2 dg (ah 1) (fC (.int 512))) (fC (.int 4))) (af (f2 cB (f2 dg (ah 1) (fC (.int 2048))) (fC (.int 4))) (aq))))) (aG (lK (fB (f2 kH (f2 cB (f2 dg (ah 1) (fC (.int 32))) (fC (.int 8))) (fC (.int 3)))) (aG (bg 5 (gE (af (f2 cB (f2 dg (ah 1) (fC (.int 512))) (fC (.int 9))) (af (f2 w8 (fC (.int 8)) (f2 cB (f2 dg (ah 1) (fC (.int 512))) (fC (.int 9)))) (aq))))) (bg 4 (fC (.int 0)))) (cU)) (aG (bg 6 (f2 aD (fR (aS 12) (af (f2 bS (fR (aN aJ 1 1) (af (ah 1) (aq))) (fC (.int 1))) (af (ah 2) (af (fC (.int 8)) (af (fC (.int 0)) (af (f2 aD (ah 5) (fC (.int 0))) (af (ah 4) (aq)))))))) (fC (.int 1)))) (aG (bg 7 (f2 aD (fR (aS 12) (af (f2 bS (fR (aN aJ 1 1) (af (ah 1) (aq))) (fC (.int 2))) (af (ah 2) (af (fC (.int 16)) (af (fC (.int 0)) (af (f2 aD (ah 5) (fC (.int 1))) (af (ah 4) (aq)))))))) (fC (.int 1)))) (bL (aL (af (aL (af (f2 aD (ah 3) (fC (.int 0))) (af (ah 6) (aq)))) (af (aL (af (f2 aD (ah 3) (fC (.int 1))) (af (ah 7) (aq)))) (aq))))))))))))
abbrev tG:SD:=top 53
def IX:aX ["_law_script","_law_one","_law_other"] ["_law_script"] (aA tG):=‹2›
noncomputable def sO:cK:=aG (D3 (fR (aN dB 1 8) (af (ah 0) (aq))) (gT 2 (kI [1,2]))) (aG (lK (yZ (iL (fR (aN dC 3 10) (af (ah 1) (af (ah 2) (af (ah 0) (aq))))))) (bL (fC (.bl false))) (cU)) (aG (D3 (fR (aN cT 1 10) (af (ah 0) (aq))) (gT 2 (kI [1,2]))) (bL (fR (aN cS 4 16) (af (ah 1) (af (ah 2) (af (fR (aN df 3 7) (af (ah 1) (af (ah 2) (af (ah 0) (aq))))) (af (ah 0) (aq)))))))))
def Nq:(["row","many"]:List Str).Nodup:=by decide +kernel
def MC:(["row","many","taken"]:List Str).Nodup:=by decide +kernel
def Le:(["row","many","others"]:List Str).Nodup:=by decide +kernel
def Nk:(["row","end"]:List Str).Nodup:=by decide +kernel
def Ny:(["row","many","end"]:List Str).Nodup:=by decide +kernel
def Kw:(["row","many"]:List Str).Nodup:=by decide +kernel
def NP:(["k","keys"]:List Str).Nodup:=by decide +kernel
def NM:(["field"]:List Str).Nodup:=by decide +kernel
def Mh:(["row","kinds"]:List Str).Nodup:=by decide +kernel
def JX:(["kind","value"]:List Str).Nodup:=by decide +kernel
def Ka:(["word","other"]:List Str).Nodup:=by decide +kernel
def JY:(["field"]:List Str).Nodup:=by decide +kernel
def KY:(["field"]:List Str).Nodup:=by decide +kernel
def J5:(["field"]:List Str).Nodup:=by decide +kernel
def J2:(["field"]:List Str).Nodup:=by decide +kernel
def Ay:(["field","twin"]:List Str).Nodup:=by decide +kernel
def HD:(["field","kind"]:List Str).Nodup:=by decide +kernel
def Hu:(["field"]:List Str).Nodup:=by decide +kernel
def JI:(["row","kinds","seen"]:List Str).Nodup:=by decide +kernel
def Lf:(["row"]:List Str).Nodup:=by decide +kernel
def Hq:(["row","many","gone"]:List Str).Nodup:=by decide +kernel
def JH:(["within","row","many"]:List Str).Nodup:=by decide +kernel
def KR:(["_law_key","_law_found"]:List Str).Nodup:=by decide +kernel
def Kn:(["_law_word","_law_other"]:List Str).Nodup:=by decide +kernel
def AK:(["_law_name_here","_law_kind_here"]:List Str).Nodup:=by decide +kernel
def Hf:(["_law_name_here","_law_kind_here"]:List Str).Nodup:=by decide +kernel
def Hl:(["_law_name_here","_law_taken"]:List Str).Nodup:=by decide +kernel
def HB:(["_law_k","_law_word","_law_spare","_law_y"]:List Str).Nodup:=by decide +kernel
def Hg:(["_law_k","_law_word","_law_spare","_law_y"]:List Str).Nodup:=by decide +kernel
def KC:(["_law_row_here","_law_many","_law_wide"]:List Str).Nodup:=by decide +kernel
section
variable{P:Sg}{w:Sf}{K:Q7}{mg:Str->Option Se}{base:Sl}[bh]
def uH{n:Nat}{f:Si}(aP:mg "isinstance"=none)(ja:mg "str"=none)(jm:mg "bool"=none)(gX:mg "int"=none)(aH:mg "tuple"=none)(bA:mg "len"=none)(fV:mg "zip"=none){aM:List D->R D}(cY:Callee P w K mg base (0+n) "_law_alike" ["_law_found","_law_due"] aM)(L__law_alike:Ar 2 aM):cJ P w K mg base (0+n) ["_law_found","_law_due","_law_one","_law_other"] "_law_alike" h7 f (eV aM):=
 ⟨λcdv A outer s H E hr hp=>(ao (cG (fw (fI ug rfl aP rfl ja RZ (ae (xv 1)))) (aC (aQ (gH (fI ug rfl aP rfl ja RZ (ae (xv 0))) (gO (j7 (de hr.units) aw (ae (xv 0)) (ae (xv 1)) (cj _)))))) (bc)) (ao (cG (Kh (uD (fw (fI lA rfl aP rfl jm R0 (ae (xv 1)))) (pU (fw (fI lA rfl aP rfl jm R0 (ae (xv 0))))))) (aC (aQ (gH (fI lA rfl aP rfl jm R0 (ae (xv 1))) (gH (fI lA rfl aP rfl jm R0 (ae (xv 0))) (gO (j7 (de hr.units) aw (ae (xv 0)) (ae (xv 1)) (cj _))))))) (bc)) (ao (cG (fw (fI tW rfl aP rfl gX R1 (ae (xv 1)))) (aC (aQ (gH (fI tW rfl aP rfl gX R1 (ae (xv 0))) (gO (j7 (de hr.units) aw (ae (xv 0)) (ae (xv 1)) (cj _)))))) (bc)) (ao (cG (Kh (uD (pF (fw (fI o4 rfl aP rfl aH R3 (ae (xv 0))))) (pU (bC (wV hr.units) aw (aW bN rfl bA PySem.boot_len (aa (ae (xv 0)) (aj))) (aW bN rfl bA PySem.boot_len (aa (ae (xv 1)) (aj))) (cj _))))) (aC (aQ (jo))) (bc)) (ao (fQ hp rfl (nJ rfl fV (aa (ae (xv 0)) (aa (ae (xv 1)) (aj)))) (fM (g:=kI [2,3]) rfl (bF (aF (i:=2) uX.nd rfl ‹1›) (bF (aF (i:=3) uX.nd rfl ‹1›) (dZ)))) (ao (cG (pF (fw (ax cY L__law_alike hr ‹0› (aa (ae (xv 2)) (aa (ae (xv 3)) (aj)))))) (aC (aQ (jo))) (bc)) (cA [2,3] bc))) (aC (aQ (jo))))))))⟩
def nD{f__law_alike:Si}{fd__law_alike:S7}(F__law_alike:uG K "_law_alike" "_law_alike" h7 f__law_alike fd__law_alike)(mB:Binds K fd__law_alike ["_law_found","_law_due"] [])(m__law_alike:mg "_law_alike"=some (.ref f__law_alike))(aP:mg "isinstance"=none)(ja:mg "str"=none)(jm:mg "bool"=none)(gX:mg "int"=none)(aH:mg "tuple"=none)(bA:mg "len"=none)(fV:mg "zip"=none):∀n:Nat,Callee P w K mg base (0+n) "_law_alike" ["_law_found","_law_due"] (aM n)
 |0=>by
  rw[aM];exact dX 0 F__law_alike mB m__law_alike
 |n+1=>by
  have ih:=nD F__law_alike mB m__law_alike aP ja jm gX aH bA fV n;rw[ke];exact aY F__law_alike mB m__law_alike uX (cJ.ok (uH aP ja jm gX aH bA fV ih (fm n)))
def xQ{f:Si}:cJ P w K mg base 0 ["self","forms","tables","view"] "Pair.put" mh f bG:=
 ⟨λcdv A outer s H E hr hp=>(aC (aQ (aO (aa (ae (xv 3)) (aa (az (ae (xv 2)) (ai) (λ_ _=>rfl)) (aj))))))⟩
def xl{f cL T:Si}(aH:mg "tuple"=none)(dM:mg "sorted"=none)(lamB:Bw mg base cL T)(lamC:vK K f (.ref cL))(lamT:∀H,bh.tab H->H T=some (.ext (pR T ⟨53,34,53,56⟩ ((("sorted_by":Str)++".<locals>.")++"<lambda>")))):Fd P w K mg base 0 ["many","rows"] "sorted_by" km f dI:=
 ⟨fun cdv A outer s H E hc hr hp=>by
  obtain rfl:=hc.one lamC;exact(aC (aQ (bB bW rfl aH R3 (aa (Cq (j:=0) hr rfl dM lamB rfl lamT (ae (xv 1)) rfl rfl (Or.inr (Or.inl rfl)) rfl rfl rfl (λ_ _ _=>rfl) rfl rfl rfl (by decide) rfl rfl rfl rfl rfl) (aj)))))⟩
def CJ{f:Si}(zB:mg "dict"=none):cJ P w K mg base 0 ["many","rows"] "by_key" pP f ir:=
 ⟨λcdv A outer s H E hr hp=>(aC (aQ (bB (An rfl hr.units) rfl zB PyProof.Rows.boot_dict (aa (cR (N:=["row","many"]) (ix:=[none,some 0]) rfl (.of rfl) (bE rfl) (bJ (ae (xv 1))) ⟨λ_ _ _ _ _ _=>⟨aF (i:=0) Nq rfl (Or.inl rfl),cn,aO (aa (cw (ae (xv 0)) (cM) (cN (ae (xv 1)))) (aa (ae (xv 0)) (aj)))⟩⟩) (aj)))))⟩
def zf{f:Si}(ig:Callee P w K mg base 1 "by_key" ["many","rows"] (aN ir 2 2))(gY:Callee P w K mg base 1 "sorted_by" ["many","rows"] (aN dI 2 2))(fE:mg "list"=none):cJ P w K mg base 1 ["many","rows","others","taken"] "standing" lS f dP:=
 ⟨λcdv A outer s H E hr hp=>(ao (aB (i:=3) zc.nd rfl ‹1› (ax ig aK hr ‹0› (aa (ae (xv 0)) (aa (ae (xv 1)) (aj))))) (aC (aQ (ax gY aK hr ‹0› (aa (ae (xv 0)) (aa (au aV aw (bB tT rfl fE R4 (aa (ae (xv 1)) (aj))) (cR (N:=["row","many","taken"]) (ix:=[none,some 0,some 3]) rfl (.of rfl) (bE rfl) (bJ (ae (xv 2))) ⟨λ_ _ _ _ _ _=>⟨aF (i:=0) MC rfl (Or.inl rfl),e9 (bC (kT hr.units) aw (cw (ae (xv 0)) (cM) (cN (ae (xv 1)))) (ae (xv 2)) rfl),ae (xv 0)⟩⟩)) (aj)))))))⟩
def yG{f:Si}(ig:Callee P w K mg base 1 "by_key" ["many","rows"] (aN ir 2 2))(gV:Callee P w K mg base 2 "standing" ["many","rows","others"] (aN dP 3 4))(bA:mg "len"=none):cJ P w K mg base 2 ["self","forms","tables","view","many","end","others","hidden","one","other"] "Join.put" mw f bf:=
 ⟨λcdv A outer s H E hr hp=>(ao (aB (i:=4) rh.nd rfl ‹1› (aW bN rfl bA PySem.boot_len (aa (az (az (ae (xv 1)) (ai) (λ_ _=>rfl)) (ai) (λ_ _=>rfl)) (aj)))) (ao (aB (i:=5) rh.nd rfl ‹1› (au aV aw (ae (xv 4)) (aW bN rfl bA PySem.boot_len (aa (az (az (ae (xv 1)) (ai) (λ_ _=>rfl)) (ai) (λ_ _=>rfl)) (aj))))) (ao (aB (i:=6) rh.nd rfl ‹1› (ax ig aK hr ‹0› (aa (ae (xv 4)) (aa (az (ae (xv 2)) (ai) (λ_ _=>rfl)) (aj))))) (ao (by first|exact qc (i:=7) rh.nd rfl ‹1› (N:=["row","many","others"]) (ix:=[none,some 4,some 6]) rfl (.of rfl) (bE rfl) (bJ (az (ae (xv 2)) (ai) (λ_ _=>rfl))) ⟨λ_ _ _ _ _ _=>⟨aF (i:=0) Le rfl (Or.inl rfl),e9 (bC (kT hr.units) aw (cw (ae (xv 0)) (cM) (cN (ae (xv 1)))) (ae (xv 2)) rfl),ae (xv 0)⟩⟩|exact aB (i:=7) rh.nd rfl ‹1› (cR (N:=["row","many","others"]) (ix:=[none,some 4,some 6]) rfl (.of rfl) (bE rfl) (bJ (az (ae (xv 2)) (ai) (λ_ _=>rfl))) ⟨λ_ _ _ _ _ _=>⟨aF (i:=0) Le rfl (Or.inl rfl),e9 (bC (kT hr.units) aw (cw (ae (xv 0)) (cM) (cN (ae (xv 1)))) (ae (xv 2)) rfl),ae (xv 0)⟩⟩)) (ao (aB (i:=8) rh.nd rfl ‹1› (ax gV aK hr ‹0› (aa (ae (xv 4)) (aa (cR (N:=["row","end"]) (ix:=[none,some 5]) rfl (.of rfl) (bE rfl) (bJ (ae (xv 3))) ⟨λ_ _ _ _ _ _=>⟨aF (i:=0) Nk rfl (Or.inl rfl),cn,cw (ae (xv 0)) (cM) (cN (ae (xv 1)))⟩⟩) (aa (ae (xv 7)) (aj)))))) (ao (aB (i:=9) rh.nd rfl ‹1› (ax gV aK hr ‹0› (aa (ae (xv 4)) (aa (cR (N:=["row","many","end"]) (ix:=[none,some 4,some 5]) rfl (.of rfl) (bE rfl) (bJ (ae (xv 3))) ⟨λ_ _ _ _ _ _=>⟨aF (i:=0) Ny rfl (Or.inl rfl),cn,au aV aw (cw (ae (xv 0)) (cM) (cN (ae (xv 1)))) (cw (ae (xv 0)) (cN (ae (xv 2))) (cM))⟩⟩) (aa (az (ae (xv 2)) (ai) (λ_ _=>rfl)) (aj)))))) (aC (aQ (aO (aa (ae (xv 8)) (aa (ae (xv 9)) (aj))))))))))))⟩
def x9{f:Si}(aP:mg "isinstance"=none)(gX:mg "int"=none)(jm:mg "bool"=none):cJ P w K mg base 0 ["value"] "is_whole" me f fZ:=
 ⟨λcdv A outer s H E hr hp=>(aC (aQ (gH (fI tW rfl aP rfl gX R1 (ae (xv 0))) (gO (Bm (fI lA rfl aP rfl jm R0 (ae (xv 0))))))))⟩
def xH{f:Si}(aP:mg "isinstance"=none)(aH:mg "tuple"=none)(bA:mg "len"=none):cJ P w K mg base 0 ["value","many"] "has_parts" jW f eS:=
 ⟨λcdv A outer s H E hr hp=>(aC (aQ (gH (fI o4 rfl aP rfl aH R3 (ae (xv 0))) (gO (j7 (de hr.units) aw (aW bN rfl bA PySem.boot_len (aa (ae (xv 0)) (aj))) (ae (xv 1)) (cj _))))))⟩
def xL{f:Si}(kr:mg "all"=none)(bX:mg "range"=none)(bA:mg "len"=none):cJ P w K mg base 0 ["many","table","keys"] "keys_rise" j4 f gW:=
 ⟨λcdv A outer s H E hr hp=>(ao (by first|exact qc (i:=2) xG.nd rfl ‹1› (N:=["row","many"]) (ix:=[none,some 0]) rfl (.of rfl) (bE rfl) (bJ (ae (xv 1))) ⟨λ_ _ _ _ _ _=>⟨aF (i:=0) Kw rfl (Or.inl rfl),cn,cw (ae (xv 0)) (cM) (cN (ae (xv 1)))⟩⟩|exact aB (i:=2) xG.nd rfl ‹1› (cR (N:=["row","many"]) (ix:=[none,some 0]) rfl (.of rfl) (bE rfl) (bJ (ae (xv 1))) ⟨λ_ _ _ _ _ _=>⟨aF (i:=0) Kw rfl (Or.inl rfl),cn,cw (ae (xv 0)) (cM) (cN (ae (xv 1)))⟩⟩)) (aC (aQ (aW (qL rfl) rfl kr R5 (aa (cR (N:=["k","keys"]) (ix:=[none,some 2]) rfl (.of rfl) (bE rfl) (iM rfl bX (aa (au oW oZ (aW bN rfl bA PySem.boot_len (aa (ae (xv 2)) (aj))) (ai)) (aj))) ⟨λ_ _ _ _ _ _=>⟨aF (i:=0) NP rfl (Or.inl rfl),cn,j7 (qG hr.units) aw (az (ae (xv 1)) (ae (xv 0)) (λ_ _=>rfl)) (az (ae (xv 1)) (au aV aw (ae (xv 0)) (ai)) (λ_ _=>rfl)) (cj _)⟩⟩) (aj))))))⟩
def yU{f:Si}(aH:mg "tuple"=none):cJ P w K mg base 0 ["form"] "kinds_of" lZ f iT:=
 ⟨λcdv A outer s H E hr hp=>(aC (aQ (bB bW rfl aH R3 (aa (cR (N:=["field"]) (ix:=[none]) rfl (.of rfl) (bE rfl) (bJ (au aV aw (az (ae (xv 0)) (ai) (λ_ _=>rfl)) (az (ae (xv 0)) (ai) (λ_ _=>rfl)))) ⟨λ_ _ _ _ _ _=>⟨aF (i:=0) NM rfl (Or.inl rfl),cn,az (ae (xv 0)) (ai) (λ_ _=>rfl)⟩⟩) (aj)))))⟩
def Gz{n:Nat}{f:Si}(eA:Callee P w K mg base 1 "is_whole" ["value"] (aN fZ 1 1))(eB:Callee P w K mg base 1 "kinds_of" ["form"] (aN iT 1 1))(dL:Callee P w K mg base 1 "keys_rise" ["many","table"] (aN gW 2 3))(dJ:Callee P w K mg base 1 "has_parts" ["value","many"] (aN eS 2 2))(aP:mg "isinstance"=none)(ja:mg "str"=none)(bA:mg "len"=none)(aH:mg "tuple"=none)(kr:mg "all"=none)(fV:mg "zip"=none){cP:List D->R D}(xD:Callee P w K mg base (1+n) "fits" ["kind","value"] cP)(L_fits:Ar 2 cP){cx:List D->R D}(sA:Callee P w K mg base (1+n) "keeps" ["form","table"] cx)(L_keeps:Ar 2 cx){bD:List D->R D}(jP:Callee P w K mg base (1+n) "is_row" ["kinds","row"] bD)(L_is_row:Ar 2 bD):cJ P w K mg base (1+n) ["kind","value"] "fits" tu f (wJ cP cx bD):=
 ⟨λcdv A outer s H E hr hp=>(ao (cG (bC (de hr.units) aw (az (ae (xv 0)) (ai) (λ_ _=>rfl)) (cO) (cj _)) (aC (aQ (gH (ax eA aK hr ‹0› (aa (ae (xv 1)) (aj))) (gO (Cm DV og DV og (az (ae (xv 0)) (ai) (λ_ _=>rfl)) (ae (xv 1)) (az (ae (xv 0)) (ai) (λ_ _=>rfl))))))) (bc)) (ao (cG (bC (de hr.units) aw (az (ae (xv 0)) (ai) (λ_ _=>rfl)) (cO) (cj _)) (aC (aQ (gH (fI ug rfl aP rfl ja RZ (ae (xv 1))) (gO (j7 (w6 hr.units) aw (ae (xv 1)) (az (ae (xv 0)) (ai) (λ_ _=>rfl)) rfl))))) (bc)) (aC (aQ (gH (ax sA L_keeps hr ‹0› (aa (az (ae (xv 0)) (ai) (λ_ _=>rfl)) (aa (ae (xv 1)) (aj)))) (gO (IC (j7 KQ og (aW bN rfl bA PySem.boot_len (aa (ae (xv 1)) (aj))) (ai) (cj _)) (gO (Bm (az (ae (xv 0)) (ai) (λ_ _=>rfl)))))))))))⟩
def Dw{n:Nat}{f:Si}(eA:Callee P w K mg base 1 "is_whole" ["value"] (aN fZ 1 1))(eB:Callee P w K mg base 1 "kinds_of" ["form"] (aN iT 1 1))(dL:Callee P w K mg base 1 "keys_rise" ["many","table"] (aN gW 2 3))(dJ:Callee P w K mg base 1 "has_parts" ["value","many"] (aN eS 2 2))(aP:mg "isinstance"=none)(ja:mg "str"=none)(bA:mg "len"=none)(aH:mg "tuple"=none)(kr:mg "all"=none)(fV:mg "zip"=none){cP:List D->R D}(xD:Callee P w K mg base (1+n) "fits" ["kind","value"] cP)(L_fits:Ar 2 cP){cx:List D->R D}(sA:Callee P w K mg base (1+n) "keeps" ["form","table"] cx)(L_keeps:Ar 2 cx){bD:List D->R D}(jP:Callee P w K mg base (1+n) "is_row" ["kinds","row"] bD)(L_is_row:Ar 2 bD):cJ P w K mg base (1+n) ["form","table","kinds"] "keeps" pp f (xt cP cx bD):=
 ⟨λcdv A outer s H E hr hp=>(ao (cG (pF (fw (fI o4 rfl aP rfl aH R3 (ae (xv 1))))) (aC (aQ (jo))) (bc)) (ao (aB (i:=2) EF.nd rfl ‹1› (ax eB aK hr ‹0› (aa (ae (xv 0)) (aj)))) (aC (aQ (gH (aW (qL rfl) rfl kr R5 (aa (cR (N:=["row","kinds"]) (ix:=[none,some 2]) rfl (.of rfl) (bE rfl) (bJ (ae (xv 1))) ⟨λ_ _ _ _ _ _=>⟨aF (i:=0) Mh rfl (Or.inl rfl),cn,ax jP L_is_row hr ‹0› (aa (ae (xv 1)) (aa (ae (xv 0)) (aj)))⟩⟩) (aj))) (gO (ax dL aK hr ‹0› (aa (aW bN rfl bA PySem.boot_len (aa (az (ae (xv 0)) (ai) (λ_ _=>rfl)) (aj))) (aa (ae (xv 1)) (aj))))))))))⟩
def B3{n:Nat}{f:Si}(eA:Callee P w K mg base 1 "is_whole" ["value"] (aN fZ 1 1))(eB:Callee P w K mg base 1 "kinds_of" ["form"] (aN iT 1 1))(dL:Callee P w K mg base 1 "keys_rise" ["many","table"] (aN gW 2 3))(dJ:Callee P w K mg base 1 "has_parts" ["value","many"] (aN eS 2 2))(aP:mg "isinstance"=none)(ja:mg "str"=none)(bA:mg "len"=none)(aH:mg "tuple"=none)(kr:mg "all"=none)(fV:mg "zip"=none){cP:List D->R D}(xD:Callee P w K mg base (1+n) "fits" ["kind","value"] cP)(L_fits:Ar 2 cP){cx:List D->R D}(sA:Callee P w K mg base (1+n) "keeps" ["form","table"] cx)(L_keeps:Ar 2 cx){bD:List D->R D}(jP:Callee P w K mg base (1+n) "is_row" ["kinds","row"] bD)(L_is_row:Ar 2 bD):cJ P w K mg base (1+n) ["kinds","row"] "is_row" nE f (pK cP cx bD):=
 ⟨λcdv A outer s H E hr hp=>(ao (cG (pF (fw (ax dJ aK hr ‹0› (aa (ae (xv 1)) (aa (aW bN rfl bA PySem.boot_len (aa (ae (xv 0)) (aj))) (aj)))))) (aC (aQ (jo))) (bc)) (aC (aQ (aW (qL rfl) rfl kr R5 (aa (cR (N:=["kind","value"]) (ix:=[none,none]) rfl (.of rfl) (eX rfl) (nJ rfl fV (aa (ae (xv 0)) (aa (ae (xv 1)) (aj)))) ⟨λ_ _ _ _ _ _=>⟨fM (g:=kI [0,1]) rfl (bF (aF (i:=0) JX rfl (Or.inl rfl)) (bF (aF (i:=1) JX rfl (Or.inl rfl)) (dZ))),cn,ax xD L_fits hr ‹0› (aa (ae (xv 0)) (aa (ae (xv 1)) (aj)))⟩⟩) (aj))))))⟩
def y6{f_fits:Si}{fd_fits:S7}(F_fits:uG K "fits" "fits" tu f_fits fd_fits)(zz:Binds K fd_fits ["kind","value"] [])(m_fits:mg "fits"=some (.ref f_fits)){f_keeps:Si}{fd_keeps:S7}(F_keeps:uG K "keeps" "keeps" pp f_keeps fd_keeps)(wL:Binds K fd_keeps ["form","table"] [])(m_keeps:mg "keeps"=some (.ref f_keeps)){f_is_row:Si}{fd_is_row:S7}(F_is_row:uG K "is_row" "is_row" nE f_is_row fd_is_row)(uF:Binds K fd_is_row ["kinds","row"] [])(m_is_row:mg "is_row"=some (.ref f_is_row))(eA:Callee P w K mg base 1 "is_whole" ["value"] (aN fZ 1 1))(eB:Callee P w K mg base 1 "kinds_of" ["form"] (aN iT 1 1))(dL:Callee P w K mg base 1 "keys_rise" ["many","table"] (aN gW 2 3))(dJ:Callee P w K mg base 1 "has_parts" ["value","many"] (aN eS 2 2))(aP:mg "isinstance"=none)(ja:mg "str"=none)(bA:mg "len"=none)(aH:mg "tuple"=none)(kr:mg "all"=none)(fV:mg "zip"=none):∀n:Nat,Callee P w K mg base (1+n) "fits" ["kind","value"] (cP n)/\Callee P w K mg base (1+n) "keeps" ["form","table"] (cx n)/\Callee P w K mg base (1+n) "is_row" ["kinds","row"] (bD n)
 |0=>by
  rw[cP];rw[cx];rw[bD];exact⟨dX 1 F_fits zz m_fits,dX 1 F_keeps wL m_keeps,dX 1 F_is_row uF m_is_row⟩
 |n+1=>by
  have ih:=y6 F_fits zz m_fits F_keeps wL m_keeps F_is_row uF m_is_row eA eB dL dJ aP ja bA aH kr fV n;rw[nu];rw[pZ];rw[kB];exact⟨aY F_fits zz m_fits FZ (cJ.ok (Gz eA eB dL dJ aP ja bA aH kr fV ih.1 (qX n) ih.2.1 (o3 n) ih.2.2 (ki n))),aY F_keeps wL m_keeps EF (cJ.ok (Dw eA eB dL dJ aP ja bA aH kr fV ih.1 (qX n) ih.2.1 (o3 n) ih.2.2 (ki n))),aY F_is_row uF m_is_row Ca (cJ.ok (B3 eA eB dL dJ aP ja bA aH kr fV ih.1 (qX n) ih.2.1 (o3 n) ih.2.2 (ki n)))⟩
def uU{f:Si}(aH:mg "tuple"=none):cJ P w K mg base 0 ["one","other","words"] "both_words" jA f ia:=
 ⟨λcdv A outer s H E hr hp=>(ao (aB (i:=2) uJ.nd rfl ‹1› (bB bW rfl aH R3 (aa (cR (N:=["word","other"]) (ix:=[none,some 1]) rfl (.of rfl) (bE rfl) (bJ (az (ae (xv 0)) (ai) (λ_ _=>rfl))) ⟨λ_ _ _ _ _ _=>⟨aF (i:=0) Ka rfl (Or.inl rfl),e9 (bC (w6 hr.units) aw (ae (xv 0)) (az (ae (xv 1)) (ai) (λ_ _=>rfl)) rfl),ae (xv 0)⟩⟩) (aj)))) (aC (aQ (E9 (fw (ae (xv 2))) (aO (aa (cO) (aa (ae (xv 2)) (aj)))) (pM)))))⟩
def rV{f:Si}(iu:mg "max"=none)(mF:mg "min"=none):cJ P w K mg base 0 ["one","other","low","high"] "both_numbers" ic f ga:=
 ⟨λcdv A outer s H E hr hp=>(ao (aB (i:=2) rX.nd rfl ‹1› (aW (mz rfl) rfl iu R6 (aa (az (ae (xv 0)) (ai) (λ_ _=>rfl)) (aa (az (ae (xv 1)) (ai) (λ_ _=>rfl)) (aj))))) (ao (aB (i:=3) rX.nd rfl ‹1› (aW (mj rfl) rfl mF R7 (aa (az (ae (xv 0)) (ai) (λ_ _=>rfl)) (aa (az (ae (xv 1)) (ai) (λ_ _=>rfl)) (aj))))) (aC (aQ (E9 (bC DV og (ae (xv 2)) (ae (xv 3)) (cj _)) (aO (aa (cO) (aa (ae (xv 2)) (aa (ae (xv 3)) (aj))))) (pM))))))⟩
def GH{f:Si}(jN:Callee P w K mg base 1 "both_numbers" ["one","other"] (aN ga 2 4))(lT:Callee P w K mg base 1 "both_words" ["one","other"] (aN ia 2 3)):cJ P w K mg base 1 ["one","other"] "both" xf f qz:=
 ⟨λcdv A outer s H E hr hp=>(ao (cG (bC (wV hr.units) aw (az (ae (xv 0)) (ai) (λ_ _=>rfl)) (az (ae (xv 1)) (ai) (λ_ _=>rfl)) (cj _)) (aC (aQ (pM))) (bc)) (ao (cG (bC (de hr.units) aw (az (ae (xv 0)) (ai) (λ_ _=>rfl)) (cO) (cj _)) (aC (aQ (ax jN aK hr ‹0› (aa (ae (xv 0)) (aa (ae (xv 1)) (aj)))))) (bc)) (ao (cG (bC (de hr.units) aw (az (ae (xv 0)) (ai) (λ_ _=>rfl)) (cO) (cj _)) (aC (aQ (ax lT aK hr ‹0› (aa (ae (xv 0)) (aa (ae (xv 1)) (aj)))))) (bc)) (aC (aQ (pM))))))⟩
def uK{f:Si}(wW:Callee P w K mg base 2 "both" ["one","other"] (aN qz 2 2))(fV:mg "zip"=none)(aH:mg "tuple"=none):cJ P w K mg base 2 ["one","other","kinds"] "shared_key" jv f iA:=
 ⟨λcdv A outer s H E hr hp=>(ao (cG (bC (wV hr.units) aw (cR (N:=["field"]) (ix:=[none]) rfl (.of rfl) (bE rfl) (bJ (ae (xv 0))) ⟨λ_ _ _ _ _ _=>⟨aF (i:=0) JY rfl (Or.inl rfl),cn,az (ae (xv 0)) (ai) (λ_ _=>rfl)⟩⟩) (cR (N:=["field"]) (ix:=[none]) rfl (.of rfl) (bE rfl) (bJ (ae (xv 1))) ⟨λ_ _ _ _ _ _=>⟨aF (i:=0) KY rfl (Or.inl rfl),cn,az (ae (xv 0)) (ai) (λ_ _=>rfl)⟩⟩) (cj _)) (aC (sZ)) (bc)) (ao (cG (bC (wV hr.units) aw (cR (N:=["field"]) (ix:=[none]) rfl (.of rfl) (bE rfl) (bJ (ae (xv 0))) ⟨λ_ _ _ _ _ _=>⟨aF (i:=0) J5 rfl (Or.inl rfl),cn,az (az (ae (xv 0)) (ai) (λ_ _=>rfl)) (ai) (λ_ _=>rfl)⟩⟩) (cR (N:=["field"]) (ix:=[none]) rfl (.of rfl) (bE rfl) (bJ (ae (xv 1))) ⟨λ_ _ _ _ _ _=>⟨aF (i:=0) J2 rfl (Or.inl rfl),cn,az (az (ae (xv 0)) (ai) (λ_ _=>rfl)) (ai) (λ_ _=>rfl)⟩⟩) (cj _)) (aC (sZ)) (bc)) (ao (by first|exact qc (i:=2) uL.nd rfl ‹1› (N:=["field","twin"]) (ix:=[none,none]) rfl (.of rfl) (eX rfl) (nJ rfl fV (aa (ae (xv 0)) (aa (ae (xv 1)) (aj)))) ⟨λ_ _ _ _ _ _=>⟨fM (g:=kI [0,1]) rfl (bF (aF (i:=0) Ay rfl (Or.inl rfl)) (bF (aF (i:=1) Ay rfl (Or.inl rfl)) (dZ))),cn,ax wW aK hr ‹0› (aa (az (ae (xv 0)) (ai) (λ_ _=>rfl)) (aa (az (ae (xv 1)) (ai) (λ_ _=>rfl)) (aj)))⟩⟩|exact aB (i:=2) uL.nd rfl ‹1› (cR (N:=["field","twin"]) (ix:=[none,none]) rfl (.of rfl) (eX rfl) (nJ rfl fV (aa (ae (xv 0)) (aa (ae (xv 1)) (aj)))) ⟨λ_ _ _ _ _ _=>⟨fM (g:=kI [0,1]) rfl (bF (aF (i:=0) Ay rfl (Or.inl rfl)) (bF (aF (i:=1) Ay rfl (Or.inl rfl)) (dZ))),cn,ax wW aK hr ‹0› (aa (az (ae (xv 0)) (ai) (λ_ _=>rfl)) (aa (az (ae (xv 1)) (ai) (λ_ _=>rfl)) (aj)))⟩⟩)) (ao (cG (bC (w6 hr.units) aw (pM) (ae (xv 2)) rfl) (aC (sZ)) (bc)) (aC (aQ (bB bW rfl aH R3 (aa (cR (N:=["field","kind"]) (ix:=[none,none]) rfl (.of rfl) (eX rfl) (nJ rfl fV (aa (ae (xv 0)) (aa (ae (xv 2)) (aj)))) ⟨λ_ _ _ _ _ _=>⟨fM (g:=kI [0,1]) rfl (bF (aF (i:=0) HD rfl (Or.inl rfl)) (bF (aF (i:=1) HD rfl (Or.inl rfl)) (dZ))),cn,aO (aa (az (ae (xv 0)) (ai) (λ_ _=>rfl)) (aa (ae (xv 1)) (aj)))⟩⟩) (aj)))))))))⟩
def xF{f:Si}(lN:Callee P w K mg base 3 "shared_key" ["one","other"] (aN iA 2 3))(jP:Callee P w K mg base 13 "is_row" ["kinds","row"] (bD 12))(bA:mg "len"=none):cJ P w K mg base 13 ["forms","table","seen","key","kinds"] "seen_rows" ko f eT:=
 ⟨λcdv A outer s H E hr hp=>(ao (aB (i:=3) wO.nd rfl ‹1› (ax lN aK hr ‹0› (aa (az (az (ae (xv 0)) (ai) (λ_ _=>rfl)) (ai) (λ_ _=>rfl)) (aa (cw (az (az (ae (xv 0)) (ai) (λ_ _=>rfl)) (ai) (λ_ _=>rfl)) (cM) (cN (aW bN rfl bA PySem.boot_len (aa (az (az (ae (xv 0)) (ai) (λ_ _=>rfl)) (ai) (λ_ _=>rfl)) (aj))))) (aj))))) (ao (by first|exact qc (i:=4) wO.nd rfl ‹1› (N:=["field"]) (ix:=[none]) rfl (.of rfl) (bE rfl) (bJ (ae (xv 3))) ⟨λ_ _ _ _ _ _=>⟨aF (i:=0) Hu rfl (Or.inl rfl),cn,az (ae (xv 0)) (ai) (λ_ _=>rfl)⟩⟩|exact aB (i:=4) wO.nd rfl ‹1› (cR (N:=["field"]) (ix:=[none]) rfl (.of rfl) (bE rfl) (bJ (ae (xv 3))) ⟨λ_ _ _ _ _ _=>⟨aF (i:=0) Hu rfl (Or.inl rfl),cn,az (ae (xv 0)) (ai) (λ_ _=>rfl)⟩⟩)) (aC (aQ (cR (N:=["row","kinds","seen"]) (ix:=[none,some 4,some 2]) rfl (.of rfl) (bE rfl) (bJ (ae (xv 1))) ⟨λ_ _ _ _ _ _=>⟨aF (i:=0) JI rfl (Or.inl rfl),e9 (bC (de hr.units) aw (ax jP (ki 12) hr ‹0› (aa (ae (xv 1)) (aa (cw (ae (xv 0)) (cM) (cN (aW bN rfl bA PySem.boot_len (aa (ae (xv 1)) (aj))))) (aj)))) (ae (xv 2)) (cj _)),ae (xv 0)⟩⟩)))))⟩
def uZ{f:Si}(gV:Callee P w K mg base 2 "standing" ["many","rows","others"] (aN dP 3 4))(j6:Callee P w K mg base 14 "seen_rows" ["forms","table","seen"] (aN eT 3 5))(ig:Callee P w K mg base 1 "by_key" ["many","rows"] (aN ir 2 2))(gY:Callee P w K mg base 1 "sorted_by" ["many","rows"] (aN dI 2 2))(bA:mg "len"=none)(fE:mg "list"=none):cJ P w K mg base 14 ["self","forms","tables","view","many","one","gone","rows","row"] "Gather.put" jw f aR:=
 ⟨λcdv A outer s H E hr hp=>(ao (aB (i:=4) oO.nd rfl ‹1› (aW bN rfl bA PySem.boot_len (aa (az (az (ae (xv 1)) (ai) (λ_ _=>rfl)) (ai) (λ_ _=>rfl)) (aj)))) (ao (aB (i:=5) oO.nd rfl ‹1› (ax gV aK hr ‹0› (aa (ae (xv 4)) (aa (cR (N:=["row"]) (ix:=[none]) rfl (.of rfl) (bE rfl) (bJ (ae (xv 3))) ⟨λ_ _ _ _ _ _=>⟨aF (i:=0) Lf rfl (Or.inl rfl),cn,cw (ae (xv 0)) (cM) (cN (rZ (ai)))⟩⟩) (aa (ax j6 aK hr ‹0› (aa (ae (xv 1)) (aa (az (ae (xv 2)) (ai) (λ_ _=>rfl)) (aa (jo) (aj))))) (aj)))))) (ao (aB (i:=6) oO.nd rfl ‹1› (ax ig aK hr ‹0› (aa (ae (xv 4)) (aa (au aV aw (bB tT rfl fE R4 (aa (ae (xv 3)) (aj))) (ax j6 aK hr ‹0› (aa (ae (xv 1)) (aa (az (ae (xv 2)) (ai) (λ_ _=>rfl)) (aa (jo) (aj)))))) (aj))))) (ao (by first|exact Ct (i:=7) oO.nd rfl ‹1› (N:=["row","many","gone"]) (ix:=[none,some 4,some 6]) rfl (.of rfl) (bE rfl) (bJ (az (ae (xv 2)) (ai) (λ_ _=>rfl))) ⟨λ_ _ _ _ _ _=>⟨aF (i:=0) Hq rfl (Or.inl rfl),e9 (bC (kT hr.units) aw (cw (ae (xv 0)) (cM) (cN (ae (xv 1)))) (ae (xv 2)) rfl),ae (xv 0)⟩⟩|exact fP (i:=7) oO.nd rfl ‹1› (Ef (N:=["row","many","gone"]) (ix:=[none,some 4,some 6]) rfl (.of rfl) (bE rfl) (bJ (az (ae (xv 2)) (ai) (λ_ _=>rfl))) ⟨λ_ _ _ _ _ _=>⟨aF (i:=0) Hq rfl (Or.inl rfl),e9 (bC (kT hr.units) aw (cw (ae (xv 0)) (cM) (cN (ae (xv 1)))) (ae (xv 2)) rfl),ae (xv 0)⟩⟩)) (cA [0,2,6] (ao (fQ hp rfl (bJ (ae (xv 3))) (aF (i:=8) oO.nd rfl ‹1›) (ao (Gv (xv 7) (Ef (N:=["within","row","many"]) (ix:=[none,some 8,some 4]) rfl (.of rfl) (bE rfl) (bJ (az (ae (xv 8)) (rZ (ai)) (λ_ _=>rfl))) ⟨λ_ _ _ _ _ _=>⟨aF (i:=0) JH rfl (Or.inl rfl),cn,au aV aw (cw (ae (xv 1)) (cM) (cN (ae (xv 2)))) (ae (xv 0))⟩⟩)) (cA [8] bc))) (d7 7 (aC (aQ (aO (aa (ae (xv 5)) (aa (ax gY aK hr ‹0› (aa (aW bN rfl bA PySem.boot_len (aa (az (az (ae (xv 1)) (ai) (λ_ _=>rfl)) (ai) (λ_ _=>rfl)) (aj))) (aa (ae (xv 7)) (aj)))) (aj)))))))))))))⟩
def xJ{f:Si}:cJ P w K mg base 0 ["_law_x"] "_law_next" jZ f aJ:=
 ⟨λcdv A outer s H E hr hp=>(aC (aQ (au bj bq (au aV aw (au aV aw (au jS jM (ae (xv 0)) (ae (xv 0))) (au jS jM (ai) (ae (xv 0)))) (ai)) (ai))))⟩
def ue{f:Si}(aH:mg "tuple"=none)(dM:mg "sorted"=none)(fE:mg "list"=none):cJ P w K mg base 0 ["_law_many","_law_rows_here","_law_found","_law_row_here"] "_law_sorted" i9 f cz:=
 ⟨λcdv A outer s H E hr hp=>(ao (fP (i:=2) ud.nd rfl ‹1› (nY)) (ao (fQ hp rfl (bJ (ae (xv 1))) (aF (i:=3) ud.nd rfl ‹1›) (ao (yH (hr.units) (xv 2) (cw (ae (xv 3)) (cM) (cN (ae (xv 0)))) (ae (xv 3))) (cA [3] bc))) (d7 2 (aC (aQ (bB bW rfl aH R3 (aa (cR (N:=["_law_key","_law_found"]) (ix:=[none,some 2]) rfl (.of rfl) (bE rfl) (bJ (aW jB rfl dM hZ (aa (bB (tJ rfl) rfl fE R4 (aa (ae (xv 2)) (aj))) (aj)))) ⟨λ_ _ _ _ _ _=>⟨aF (i:=0) KR rfl (Or.inl rfl),cn,Fw hr.units (ae (xv 1)) (ae (xv 0)) (λ_ _=>rfl)⟩⟩) (aj))))))))⟩
def u9{n:Nat}{f:Si}(aE:Callee P w K mg base 1 "_law_next" ["_law_x"] (aN aJ 1 1))(cp:Callee P w K mg base 1 "_law_sorted" ["_law_many","_law_rows_here"] (aN cz 2 4))(bA:mg "len"=none)(iu:mg "max"=none)(gX:mg "int"=none)(aH:mg "tuple"=none)(bX:mg "range"=none){aI:List D->R D}(ik:Callee P w K mg base (1+n) "_law_value" ["_law_kind_here","_law_x"] aI)(L__law_value:Ar 2 aI){aZ:List D->R D}(gQ:Callee P w K mg base (1+n) "_law_row" ["_law_form_here","_law_many","_law_head","_law_tail"] aZ)(L__law_row:Ar 4 aZ){bb:List D->R D}(kc:Callee P w K mg base (1+n) "_law_rows" ["_law_form_here","_law_x","_law_many"] bb)(L__law_rows:Ar 3 bb):cJ P w K mg base (1+n) ["_law_kind_here","_law_x"] "_law_value" iC f (ie aI aZ bb):=
 ⟨λcdv A outer s H E hr hp=>(ao (cG (bC (de hr.units) aw (az (ae (xv 0)) (ai) (λ_ _=>rfl)) (cO) (cj _)) (aC (aQ (au aV aw (az (ae (xv 0)) (ai) (λ_ _=>rfl)) (au bj bq (au iG iR (ae (xv 1)) (ai)) (au aV aw (au oW oZ (az (ae (xv 0)) (ai) (λ_ _=>rfl)) (az (ae (xv 0)) (ai) (λ_ _=>rfl))) (ai)))))) (bc)) (ao (cG (bC (de hr.units) aw (az (ae (xv 0)) (ai) (λ_ _=>rfl)) (cO) (cj _)) (aC (aQ (az (az (ae (xv 0)) (ai) (λ_ _=>rfl)) (au bj bq (ae (xv 1)) (aW bN rfl bA PySem.boot_len (aa (az (ae (xv 0)) (ai) (λ_ _=>rfl)) (aj)))) (λ_ _=>rfl)))) (bc)) (aC (aQ (ax kc L__law_rows hr ‹0› (aa (az (ae (xv 0)) (ai) (λ_ _=>rfl)) (aa (au bd bR (ae (xv 1)) (ai)) (aa (aW (mz rfl) rfl iu R6 (aa (au bj bq (ae (xv 1)) (ai)) (aa (bB Ab rfl gX R1 (aa (az (ae (xv 0)) (ai) (λ_ _=>rfl)) (aj))) (aj)))) (aj)))))))))⟩
def yy{n:Nat}{f:Si}(aE:Callee P w K mg base 1 "_law_next" ["_law_x"] (aN aJ 1 1))(cp:Callee P w K mg base 1 "_law_sorted" ["_law_many","_law_rows_here"] (aN cz 2 4))(bA:mg "len"=none)(iu:mg "max"=none)(gX:mg "int"=none)(aH:mg "tuple"=none)(bX:mg "range"=none){aI:List D->R D}(ik:Callee P w K mg base (1+n) "_law_value" ["_law_kind_here","_law_x"] aI)(L__law_value:Ar 2 aI){aZ:List D->R D}(gQ:Callee P w K mg base (1+n) "_law_row" ["_law_form_here","_law_many","_law_head","_law_tail"] aZ)(L__law_row:Ar 4 aZ){bb:List D->R D}(kc:Callee P w K mg base (1+n) "_law_rows" ["_law_form_here","_law_x","_law_many"] bb)(L__law_rows:Ar 3 bb):cJ P w K mg base (1+n) ["_law_form_here","_law_many","_law_head","_law_tail","_law_row_here","_law_name_here","_law_kind_here"] "_law_row" jL f (lY aI aZ bb):=
 ⟨λcdv A outer s H E hr hp=>(ao (fP (i:=4) yg.nd rfl ‹1› (jx (aj))) (ao (fQ hp rfl (bJ (au aV aw (az (ae (xv 0)) (ai) (λ_ _=>rfl)) (az (ae (xv 0)) (ai) (λ_ _=>rfl)))) (fM (g:=kI [5,6]) rfl (bF (aF (i:=5) yg.nd rfl ‹1›) (bF (aF (i:=6) yg.nd rfl ‹1›) (dZ)))) (ao (cG (yj [4] (bC (qG hr.units) aw (aW bN rfl bA PySem.boot_len (aa (ae (xv 4)) (aj))) (ae (xv 1)) (cj _))) (ao (aB (i:=2) yg.nd rfl ‹1› (ax aE aK hr ‹0› (aa (ae (xv 2)) (aj)))) (aC (kz Sb Sd eI fu (xv 4) (aa (ax ik L__law_value hr ‹0› (aa (ae (xv 6)) (aa (ae (xv 2)) (aj)))) (aj))))) (ao (aB (i:=3) yg.nd rfl ‹1› (ax aE aK hr ‹0› (aa (ae (xv 3)) (aj)))) (aC (kz Sb Sd eI fu (xv 4) (aa (ax ik L__law_value hr ‹0› (aa (ae (xv 6)) (aa (ae (xv 3)) (aj)))) (aj)))))) (cA [5,6] bc))) (d7 4 (aC (aQ (bB bW rfl aH R3 (aa (ae (xv 4)) (aj))))))))⟩
def wt{n:Nat}{f:Si}(aE:Callee P w K mg base 1 "_law_next" ["_law_x"] (aN aJ 1 1))(cp:Callee P w K mg base 1 "_law_sorted" ["_law_many","_law_rows_here"] (aN cz 2 4))(bA:mg "len"=none)(iu:mg "max"=none)(gX:mg "int"=none)(aH:mg "tuple"=none)(bX:mg "range"=none){aI:List D->R D}(ik:Callee P w K mg base (1+n) "_law_value" ["_law_kind_here","_law_x"] aI)(L__law_value:Ar 2 aI){aZ:List D->R D}(gQ:Callee P w K mg base (1+n) "_law_row" ["_law_form_here","_law_many","_law_head","_law_tail"] aZ)(L__law_row:Ar 4 aZ){bb:List D->R D}(kc:Callee P w K mg base (1+n) "_law_rows" ["_law_form_here","_law_x","_law_many"] bb)(L__law_rows:Ar 3 bb):cJ P w K mg base (1+n) ["_law_form_here","_law_x","_law_many","_law_rows_here","_law_k"] "_law_rows" jh f (kj aI aZ bb):=
 ⟨λcdv A outer s H E hr hp=>(ao (fP (i:=3) wI.nd rfl ‹1› (jx (aj))) (ao (fQ hp rfl (iM rfl bX (aa (ae (xv 2)) (aj))) (aF (i:=4) wI.nd rfl ‹1›) (ao (aB (i:=1) wI.nd rfl ‹1› (ax aE aK hr ‹0› (aa (ae (xv 1)) (aj)))) (ao (kz Sb Sd eI fu (xv 3) (aa (ax gQ L__law_row hr ‹0› (aa (ae (xv 0)) (aa (ai) (aa (ai) (aa (ae (xv 1)) (aj)))))) (aj))) (cA [4] bc)))) (d7 3 (aC (aQ (ax cp aK hr ‹0› (aa (aW bN rfl bA PySem.boot_len (aa (az (ae (xv 0)) (ai) (λ_ _=>rfl)) (aj))) (aa (ae (xv 3)) (aj)))))))))⟩
def ng{f__law_value:Si}{fd__law_value:S7}(F__law_value:uG K "_law_value" "_law_value" iC f__law_value fd__law_value)(lO:Binds K fd__law_value ["_law_kind_here","_law_x"] [])(m__law_value:mg "_law_value"=some (.ref f__law_value)){f__law_row:Si}{fd__law_row:S7}(F__law_row:uG K "_law_row" "_law_row" jL f__law_row fd__law_row)(o6:Binds K fd__law_row ["_law_form_here","_law_many","_law_head","_law_tail"] [])(m__law_row:mg "_law_row"=some (.ref f__law_row)){f__law_rows:Si}{fd__law_rows:S7}(F__law_rows:uG K "_law_rows" "_law_rows" jh f__law_rows fd__law_rows)(nw:Binds K fd__law_rows ["_law_form_here","_law_x","_law_many"] [])(m__law_rows:mg "_law_rows"=some (.ref f__law_rows))(aE:Callee P w K mg base 1 "_law_next" ["_law_x"] (aN aJ 1 1))(cp:Callee P w K mg base 1 "_law_sorted" ["_law_many","_law_rows_here"] (aN cz 2 4))(bA:mg "len"=none)(iu:mg "max"=none)(gX:mg "int"=none)(aH:mg "tuple"=none)(bX:mg "range"=none):∀n:Nat,Callee P w K mg base (1+n) "_law_value" ["_law_kind_here","_law_x"] (aI n)/\Callee P w K mg base (1+n) "_law_row" ["_law_form_here","_law_many","_law_head","_law_tail"] (aZ n)/\Callee P w K mg base (1+n) "_law_rows" ["_law_form_here","_law_x","_law_many"] (bb n)
 |0=>by
  rw[aI];rw[aZ];rw[bb];exact⟨dX 1 F__law_value lO m__law_value,dX 1 F__law_row o6 m__law_row,dX 1 F__law_rows nw m__law_rows⟩
 |n+1=>by
  have ih:=ng F__law_value lO m__law_value F__law_row o6 m__law_row F__law_rows nw m__law_rows aE cp bA iu gX aH bX n;rw[fJ];rw[jl];rw[iK];exact⟨aY F__law_value lO m__law_value uS (cJ.ok (u9 aE cp bA iu gX aH bX ih.1 (jk n) ih.2.1 (i7 n) ih.2.2 (jO n))),aY F__law_row o6 m__law_row yg (cJ.ok (yy aE cp bA iu gX aH bX ih.1 (jk n) ih.2.1 (i7 n) ih.2.2 (jO n))),aY F__law_rows nw m__law_rows wI (cJ.ok (wt aE cp bA iu gX aH bX ih.1 (jk n) ih.2.1 (i7 n) ih.2.2 (jO n)))⟩
def sX{f:Si}(gQ:Callee P w K mg base 13 "_law_row" ["_law_form_here","_law_many","_law_head","_law_tail"] (aZ 12))(aH:mg "tuple"=none):cJ P w K mg base 13 ["_law_fields","_law_x"] "_law_values" i6 f cD:=
 ⟨λcdv A outer s H E hr hp=>(aC (aQ (ax gQ (i7 12) hr ‹0› (aa (aO (aa (bB bW rfl aH R3 (aa (ae (xv 0)) (aj))) (aa (aO (aj)) (aj)))) (aa (ai) (aa (ai) (aa (ae (xv 1)) (aj))))))))⟩
def rQ{f:Si}(bA:mg "len"=none):cJ P w K mg base 0 ["_law_script","_law_k"] "_law_cell_at" iw f cf:=
 ⟨λcdv A outer s H E hr hp=>(ao (cG (bC (qG hr.units) aw (ae (xv 1)) (aW bN rfl bA PySem.boot_len (aa (ae (xv 0)) (aj))) (cj _)) (aC (aQ (az (ae (xv 0)) (ae (xv 1)) (λ_ _=>rfl)))) (bc)) (aC (aQ (ai))))⟩
def xg{f:Si}(cm:Callee P w K mg base 1 "_law_cell_at" ["_law_script","_law_k"] (aN cf 2 2))(aE:Callee P w K mg base 1 "_law_next" ["_law_x"] (aN aJ 1 1)):cJ P w K mg base 1 ["_law_script","_law_k","_law_x"] "_law_seed" j5 f bV:=
 ⟨λcdv A outer s H E hr hp=>(ao (aB (i:=2) wo.nd rfl ‹1› (au bj bq (au aV aw (au aV aw (au bj bq (ax cm aK hr ‹0› (aa (ae (xv 0)) (aa (ae (xv 1)) (aj)))) (ai)) (au jS jM (au jS jM (ai) (ae (xv 1))) (ae (xv 1)))) (ai)) (ai))) (aC (aQ (ax aE aK hr ‹0› (aa (ax aE aK hr ‹0› (aa (ae (xv 2)) (aj))) (aj))))))⟩
def rL{f:Si}(fz:Callee P w K mg base 14 "_law_values" ["_law_fields","_law_x"] (aN cD 2 2))(cy:Callee P w K mg base 2 "_law_seed" ["_law_script","_law_k"] (aN bV 2 3))(cp:Callee P w K mg base 1 "_law_sorted" ["_law_many","_law_rows_here"] (aN cz 2 4))(bX:mg "range"=none)(mF:mg "min"=none)(iu:mg "max"=none)(bA:mg "len"=none):cJ P w K mg base 14 ["_law_many","_law_fields","_law_script","_law_rows_here","_law_k"] "_law_rows_of" il f dQ:=
 ⟨λcdv A outer s H E hr hp=>(ao (fP (i:=3) rM.nd rfl ‹1› (jx (aj))) (ao (fQ hp rfl (Aq rfl bX (aa (ai) (aa (aW (mj rfl) rfl mF R7 (aa (aW (mz rfl) rfl iu R6 (aa (aW bN rfl bA PySem.boot_len (aa (ae (xv 2)) (aj))) (aa (ai) (aj)))) (aa (ai) (aj)))) (aj)))) (aF (i:=4) rM.nd rfl ‹1›) (ao (kz Sb Sd eI fu (xv 3) (aa (ax fz aK hr ‹0› (aa (ae (xv 1)) (aa (ax cy aK hr ‹0› (aa (ae (xv 2)) (aa (ae (xv 4)) (aj)))) (aj)))) (aj))) (cA [4] bc))) (d7 3 (aC (aQ (ax cp aK hr ‹0› (aa (ae (xv 0)) (aa (ae (xv 3)) (aj)))))))))⟩
def rS{f:Si}(mF:mg "min"=none)(iu:mg "max"=none)(aH:mg "tuple"=none):cJ P w K mg base 0 ["_law_one","_law_other"] "_law_in_both" hJ f eP:=
 ⟨λcdv A outer s H E hr hp=>(ao (cG (bC (de hr.units) aw (az (ae (xv 0)) (ai) (λ_ _=>rfl)) (cO) (cj _)) (aC (aQ (aO (aa (cO) (aa (aW (mz rfl) rfl iu R6 (aa (az (ae (xv 0)) (ai) (λ_ _=>rfl)) (aa (az (ae (xv 1)) (ai) (λ_ _=>rfl)) (aj)))) (aa (aW (mj rfl) rfl mF R7 (aa (az (ae (xv 0)) (ai) (λ_ _=>rfl)) (aa (az (ae (xv 1)) (ai) (λ_ _=>rfl)) (aj)))) (aj))))))) (bc)) (aC (aQ (aO (aa (cO) (aa (bB bW rfl aH R3 (aa (cR (N:=["_law_word","_law_other"]) (ix:=[none,some 1]) rfl (.of rfl) (bE rfl) (bJ (az (ae (xv 0)) (ai) (λ_ _=>rfl))) ⟨λ_ _ _ _ _ _=>⟨aF (i:=0) Kn rfl (Or.inl rfl),e9 (bC (w6 hr.units) aw (ae (xv 0)) (az (ae (xv 1)) (ai) (λ_ _=>rfl)) rfl),ae (xv 0)⟩⟩) (aj))) (aj)))))))⟩
def oH{f:Si}(jT:Callee P w K mg base 1 "_law_in_both" ["_law_one","_law_other"] (aN eP 2 2))(fV:mg "zip"=none)(aH:mg "tuple"=none):cJ P w K mg base 1 ["_law_one","_law_other","_law_found","_law_field","_law_more"] "_law_key_of_both" eY f ce:=
 ⟨λcdv A outer s H E hr hp=>(ao (fP (i:=2) oF.nd rfl ‹1› (jx (aj))) (ao (fQ hp rfl (nJ rfl fV (aa (az (ae (xv 0)) (ai) (λ_ _=>rfl)) (aa (az (ae (xv 1)) (ai) (λ_ _=>rfl)) (aj)))) (fM (g:=kI [3,4]) rfl (bF (aF (i:=3) oF.nd rfl ‹1›) (bF (aF (i:=4) oF.nd rfl ‹1›) (dZ)))) (ao (kz Sb Sd eI fu (xv 2) (aa (aO (aa (az (ae (xv 3)) (ai) (λ_ _=>rfl)) (aa (ax jT aK hr ‹0› (aa (az (ae (xv 3)) (ai) (λ_ _=>rfl)) (aa (az (ae (xv 4)) (ai) (λ_ _=>rfl)) (aj)))) (aj)))) (aj))) (cA [3,4] bc))) (d7 2 (aC (aQ (bB bW rfl aH R3 (aa (ae (xv 2)) (aj))))))))⟩
def lQ{f:Si}(cV:Callee P w K mg base 2 "_law_key_of_both" ["_law_one","_law_other"] (aN ce 2 5))(eL:Callee P w K mg base 15 "_law_rows_of" ["_law_many","_law_fields","_law_script"] (aN dQ 3 5))(cy:Callee P w K mg base 2 "_law_seed" ["_law_script","_law_k"] (aN bV 2 3))(aE:Callee P w K mg base 1 "_law_next" ["_law_x"] (aN aJ 1 1))(fz:Callee P w K mg base 14 "_law_values" ["_law_fields","_law_x"] (aN cD 2 2))(cY:Callee P w K mg base 12 "_law_alike" ["_law_found","_law_due"] (aM 12))(bY:oM P w K mg base 15 "put" ["self","forms","tables","view"] [("Pair",(aN bG 4 4)),("Join",(aN bf 4 10)),("Gather",(aN aR 4 9))])(tY:uw P w K mg base 1 "Gather" ["self","name"] ["name"])(bA:mg "len"=none)(dM:mg "sorted"=none)(fE:mg "list"=none)(aH:mg "tuple"=none):cJ P w K mg base 15 ["_law_one","_law_other","_law_name_here","_law_script","_law_many","_law_key","_law_orphans","_law_x","_law_firsts","_law_row_here","_law_view","_law_begin","_law_pair","_law_first","_law_second","_law_alone"] "_law_gather_forgets" dS f cS:=
 ⟨λcdv A outer s H E hr hp=>(ao (aB (i:=4) mC.nd rfl ‹1› (aW bN rfl bA PySem.boot_len (aa (az (ae (xv 0)) (ai) (λ_ _=>rfl)) (aj)))) (ao (aB (i:=5) mC.nd rfl ‹1› (ax cV aK hr ‹0› (aa (ae (xv 0)) (aa (ae (xv 1)) (aj))))) (ao (aB (i:=6) mC.nd rfl ‹1› (ax eL aK hr ‹0› (aa (aW bN rfl bA PySem.boot_len (aa (az (ae (xv 1)) (ai) (λ_ _=>rfl)) (aj))) (aa (au aV aw (au aV aw (ae (xv 5)) (cw (az (ae (xv 1)) (ai) (λ_ _=>rfl)) (cN (ae (xv 4))) (cM))) (az (ae (xv 1)) (ai) (λ_ _=>rfl))) (aa (ae (xv 3)) (aj)))))) (ao (aB (i:=7) mC.nd rfl ‹1› (ax cy aK hr ‹0› (aa (ae (xv 3)) (aa (ai) (aj))))) (ao (fP (i:=8) mC.nd rfl ‹1› (nY)) (cA [3,5] (ao (fQ hp rfl (bJ (ae (xv 6))) (aF (i:=9) mC.nd rfl ‹1›) (ao (yH (hr.units) (xv 8) (cw (ae (xv 9)) (cM) (cN (ae (xv 4)))) (jo)) (cA [9] bc))) (ao (fP (i:=10) mC.nd rfl ‹1› (jx (aj))) (d7 8 (cA [3,4,5,9] (ao (fQ hp rfl (bJ (aW jB rfl dM hZ (aa (bB (tJ rfl) rfl fE R4 (aa (ae (xv 8)) (aj))) (aj)))) (aF (i:=11) mC.nd rfl ‹1›) (ao (aB (i:=7) mC.nd rfl ‹1› (ax aE aK hr ‹0› (aa (ae (xv 7)) (aj)))) (ao (kz Sb Sd eI fu (xv 10) (aa (au aV aw (au aV aw (ae (xv 11)) (ax fz aK hr ‹0› (aa (az (ae (xv 0)) (ai) (λ_ _=>rfl)) (aa (ae (xv 7)) (aj))))) (aO (aa (aO (aj)) (aj)))) (aj))) (cA [11] bc)))) (ao (aB (i:=12) mC.nd rfl ‹1› (Fm tY hr ‹0› rfl (aa (ae (xv 2)) (aj)))) (d7 10 (ao (aB (i:=13) mC.nd rfl ‹1› (kX bY hr ‹0› (ae (xv 12)) (aa (aO (aa (ae (xv 0)) (aa (ae (xv 1)) (aj)))) (aa (aO (aa (aO (aj)) (aa (ae (xv 6)) (aj)))) (aa (bB bW rfl aH R3 (aa (ae (xv 10)) (aj))) (aj)))))) (ao (aB (i:=14) mC.nd rfl ‹1› (kX bY hr ‹0› (ae (xv 12)) (aa (aO (aa (ae (xv 0)) (aa (ae (xv 1)) (aj)))) (aa (ae (xv 13)) (aa (aO (aj)) (aj)))))) (ao (aB (i:=15) mC.nd rfl ‹1› (kX bY hr ‹0› (ae (xv 12)) (aa (aO (aa (ae (xv 0)) (aa (ae (xv 1)) (aj)))) (aa (aO (aa (aO (aj)) (aa (ae (xv 6)) (aj)))) (aa (aO (aj)) (aj)))))) (aC (aQ (gH (ax cY (fm 12) hr ‹0› (aa (ae (xv 14)) (aa (aO (aa (aO (aj)) (aa (aO (aj)) (aj)))) (aj)))) (gO (ax cY (fm 12) hr ‹0› (aa (ae (xv 15)) (aa (aO (aa (aO (aj)) (aa (ae (xv 6)) (aj)))) (aj))))))))))))))))))))))))⟩
def wG{f:Si}(bX:mg "range"=none):cJ P w K mg base 0 ["_law_base","_law_k","_law_letters","_law_size","_law_name_here","_law_j","_law_step"] "_law_name" kn f bU:=
 ⟨λcdv A outer s H E hr hp=>(ao (aB (i:=2) xI.nd rfl ‹1› (cO)) (ao (aB (i:=1) xI.nd rfl ‹1› (au bj bq (au aV aw (au jS jM (ae (xv 1)) (az (eG (aa (ai) (aa (ai) (aa (ai) (aa (ai) (aa (ai) (aa (ai) (aj)))))))) (au bj bq (ae (xv 0)) (ai)) (λ_ _=>rfl))) (au bd bR (ae (xv 0)) (ai))) (ai))) (ao (aB (i:=0) xI.nd rfl ‹1› (au bd bR (ae (xv 0)) (ai))) (ao (cG (bC (de hr.units) aw (au bj bq (ae (xv 0)) (ai)) (ai) (cj _)) (aC (aQ (au p9 aw (az (ae (xv 2)) (au bj bq (au aV aw (au bd bR (ae (xv 0)) (ai)) (au bd bR (ae (xv 1)) (ai))) (ai)) (λ_ _=>rfl)) (au aV aw (ai) (au bj bq (ae (xv 1)) (ai)))))) (bc)) (ao (aB (i:=3) xI.nd rfl ‹1› (au aV aw (ai) (au bj bq (au bd bR (ae (xv 0)) (ai)) (ai)))) (ao (aB (i:=4) xI.nd rfl ‹1› (cO)) (ao (fQ hp rfl (iM rfl bX (aa (ae (xv 3)) (aj))) (aF (i:=5) xI.nd rfl ‹1›) (ao (aB (i:=6) xI.nd rfl ‹1› (au bd bR (ae (xv 0)) (au aV aw (ai) (au jS jM (au jS jM (ai) (ae (xv 5))) (ae (xv 5)))))) (ao (cG (bC (de hr.units) aw (ae (xv 5)) (au bj bq (au bd bR (ae (xv 0)) (ai)) (ae (xv 3))) (cj _)) (aC (aB (i:=6) xI.nd rfl ‹1› (au aV aw (ae (xv 6)) (ae (xv 1))))) (bc)) (ao (aB (i:=4) xI.nd rfl ‹1› (au aV aw (ae (xv 4)) (az (ae (xv 2)) (au bj bq (ae (xv 6)) (ai)) (λ_ _=>rfl)))) (cA [5,6] bc))))) (aC (aQ (ae (xv 4)))))))))))⟩
def mI{f:Si}(aE:Callee P w K mg base 1 "_law_next" ["_law_x"] (aN aJ 1 1))(cy:Callee P w K mg base 2 "_law_seed" ["_law_script","_law_k"] (aN bV 2 3))(cm:Callee P w K mg base 1 "_law_cell_at" ["_law_script","_law_k"] (aN cf 2 2))(ca:Callee P w K mg base 1 "_law_name" ["_law_base","_law_k"] (aN bU 2 7))(bA:mg "len"=none):cJ P w K mg base 2 ["_law_one","_law_other","_law_script","_law_x","_law_base","_law_taken","_law_some"] "_law_gathered_name" eh f df:=
 ⟨λcdv A outer s H E hr hp=>(ao (aB (i:=3) mL.nd rfl ‹1› (ax aE aK hr ‹0› (aa (ax cy aK hr ‹0› (aa (ae (xv 2)) (aa (ai) (aj)))) (aj)))) (ao (aB (i:=4) mL.nd rfl ‹1› (au bj bq (au jS jM (ax cm aK hr ‹0› (aa (ae (xv 2)) (aa (ai) (aj)))) (ai)) (ai))) (ao (by first|exact qc (i:=5) mL.nd rfl ‹1› (N:=["_law_name_here","_law_kind_here"]) (ix:=[none,none]) rfl (.of rfl) (eX rfl) (bJ (au aV aw (az (ae (xv 0)) (ai) (λ_ _=>rfl)) (az (ae (xv 0)) (ai) (λ_ _=>rfl)))) ⟨λ_ _ _ _ _ _=>⟨fM (g:=kI [0,1]) rfl (bF (aF (i:=0) AK rfl (Or.inl rfl)) (bF (aF (i:=1) AK rfl (Or.inl rfl)) (dZ))),cn,ae (xv 0)⟩⟩|exact aB (i:=5) mL.nd rfl ‹1› (cR (N:=["_law_name_here","_law_kind_here"]) (ix:=[none,none]) rfl (.of rfl) (eX rfl) (bJ (au aV aw (az (ae (xv 0)) (ai) (λ_ _=>rfl)) (az (ae (xv 0)) (ai) (λ_ _=>rfl)))) ⟨λ_ _ _ _ _ _=>⟨fM (g:=kI [0,1]) rfl (bF (aF (i:=0) AK rfl (Or.inl rfl)) (bF (aF (i:=1) AK rfl (Or.inl rfl)) (dZ))),cn,ae (xv 0)⟩⟩)) (ao (aB (i:=6) mL.nd rfl ‹1› (au aV aw (cR (N:=["_law_name_here","_law_kind_here"]) (ix:=[none,none]) rfl (.of rfl) (eX rfl) (bJ (au aV aw (az (ae (xv 1)) (ai) (λ_ _=>rfl)) (az (ae (xv 1)) (ai) (λ_ _=>rfl)))) ⟨λ_ _ _ _ _ _=>⟨fM (g:=kI [0,1]) rfl (bF (aF (i:=0) Hf rfl (Or.inl rfl)) (bF (aF (i:=1) Hf rfl (Or.inl rfl)) (dZ))),cn,ae (xv 0)⟩⟩) (eG (aa (ax ca aK hr ‹0› (aa (ae (xv 4)) (aa (ai) (aj)))) (aa (ax ca aK hr ‹0› (aa (ae (xv 4)) (aa (ai) (aj)))) (aj)))))) (ao (by first|exact qc (i:=6) mL.nd rfl ‹1› (N:=["_law_name_here","_law_taken"]) (ix:=[none,some 5]) rfl (.of rfl) (bE rfl) (bJ (ae (xv 6))) ⟨λ_ _ _ _ _ _=>⟨aF (i:=0) Hl rfl (Or.inl rfl),e9 (bC (wg hr.units) aw (ae (xv 0)) (ae (xv 1)) rfl),ae (xv 0)⟩⟩|exact aB (i:=6) mL.nd rfl ‹1› (cR (N:=["_law_name_here","_law_taken"]) (ix:=[none,some 5]) rfl (.of rfl) (bE rfl) (bJ (ae (xv 6))) ⟨λ_ _ _ _ _ _=>⟨aF (i:=0) Hl rfl (Or.inl rfl),e9 (bC (wg hr.units) aw (ae (xv 0)) (ae (xv 1)) rfl),ae (xv 0)⟩⟩)) (aC (aQ (az (ae (xv 6)) (au bj bq (ae (xv 3)) (aW bN rfl bA PySem.boot_len (aa (ae (xv 6)) (aj)))) (λ_ _=>rfl)))))))))⟩
def uN{f:Si}(bX:mg "range"=none)(bA:mg "len"=none)(aH:mg "tuple"=none)(dM:mg "sorted"=none)(fE:mg "list"=none):cJ P w K mg base 0 ["_law_x","_law_low","_law_letters","_law_one","_law_other","_law_some","_law_kept","_law_k"] "_law_plain" jy f dF:=
 ⟨λcdv A outer s H E hr hp=>(ao (cG (bC (qG hr.units) aw (au bj bq (ae (xv 0)) (ai)) (ai) (cj _)) (ao (aB (i:=1) uO.nd rfl ‹1› (az (eG (aa (ai) (aa (rZ (ai)) (aa (au oW oZ (ai) (au bj bq (au iG iR (ae (xv 0)) (ai)) (au iG iR (ai) (ai)))) (aa (au bj bq (au iG iR (ae (xv 0)) (ai)) (au iG iR (ai) (ai))) (aj)))))) (au bj bq (au bd bR (ae (xv 0)) (ai)) (ai)) (λ_ _=>rfl))) (aC (aQ (aO (aa (cO) (aa (ae (xv 1)) (aa (au aV aw (ae (xv 1)) (az (eG (aa (ai) (aa (ai) (aa (ai) (aa (au iG iR (ai) (ai)) (aj)))))) (au bj bq (au bd bR (ae (xv 0)) (ai)) (ai)) (λ_ _=>rfl))) (aj)))))))) (bc)) (ao (aB (i:=2) uO.nd rfl ‹1› (cO)) (ao (aB (i:=3) uO.nd rfl ‹1› (az (ae (xv 2)) (au bj bq (au bd bR (ae (xv 0)) (ai)) (ai)) (λ_ _=>rfl))) (ao (aB (i:=4) uO.nd rfl ‹1› (az (ae (xv 2)) (au bj bq (au bd bR (ae (xv 0)) (ai)) (ai)) (λ_ _=>rfl))) (ao (aB (i:=5) uO.nd rfl ‹1› (eG (aa (cO) (aa (ae (xv 3)) (aa (ae (xv 4)) (aa (au aV aw (ae (xv 3)) (ae (xv 4))) (aa (au aV aw (ae (xv 4)) (ae (xv 3))) (aa (au p9 aw (ae (xv 3)) (ai)) (aa (au aV aw (ae (xv 3)) (ae (xv 3))) (aa (au p9 aw (ae (xv 4)) (ai)) (aj))))))))))) (ao (fP (i:=6) uO.nd rfl ‹1› (nY)) (cA [1,2,4] (ao (fQ hp rfl (iM rfl bX (aa (ai) (aj))) (aF (i:=7) uO.nd rfl ‹1›) (ao (cG (bC (de hr.units) aw (au zQ zZ (au Ak zL (au bd bR (ae (xv 0)) (ai)) (ae (xv 7))) (ai)) (ai) (cj _)) (aC (t7 (hr.units) (xv 6) (az (ae (xv 5)) (ae (xv 7)) (λ_ _=>rfl)) (jo))) (bc)) (cA [7] bc))) (ao (cG (yj [6] (bC (de hr.units) aw (aW Cp rfl bA PySem.boot_len (aa (ae (xv 6)) (aj))) (ai) (cj _))) (aC (t7 (hr.units) (xv 6) (ae (xv 3)) (jo))) (bc)) (d7 6 (aC (aQ (aO (aa (cO) (aa (bB bW rfl aH R3 (aa (aW jB rfl dM hZ (aa (bB (tx rfl) rfl fE R4 (aa (ae (xv 6)) (aj))) (aj))) (aj))) (aj))))))))))))))))⟩
def xC{n:Nat}{f:Si}(dG:Callee P w K mg base 1 "_law_plain" ["_law_x"] (aN dF 1 8))(aE:Callee P w K mg base 1 "_law_next" ["_law_x"] (aN aJ 1 1))(ca:Callee P w K mg base 1 "_law_name" ["_law_base","_law_k"] (aN bU 2 7))(bX:mg "range"=none)(aH:mg "tuple"=none){bu:List D->R D}(nF:Callee P w K mg base (1+n) "_law_kind" ["_law_x","_law_base","_law_deep"] bu)(L__law_kind:Ar 3 bu){aS:List D->R D}(dj:Callee P w K mg base (1+n) "_law_form" ["_law_x","_law_base","_law_start","_law_many","_law_more","_law_deep"] aS)(L__law_form:Ar 6 aS):cJ P w K mg base (1+n) ["_law_x","_law_base","_law_deep","_law_inner"] "_law_kind" jj f (jc bu aS):=
 ⟨λcdv A outer s H E hr hp=>(ao (cG (Kh (uD (bC (de hr.units) aw (ae (xv 2)) (ai) (cj _)) (pU (bC (qG hr.units) aw (au bj bq (ae (xv 0)) (ai)) (ai) (cj _))))) (aC (aQ (ax dG aK hr ‹0› (aa (au bd bR (ae (xv 0)) (ai)) (aj))))) (bc)) (ao (aB (i:=3) xA.nd rfl ‹1› (ax dj L__law_form hr ‹0› (aa (au bd bR (ae (xv 0)) (ai)) (aa (ae (xv 1)) (aa (au bj bq (au bd bR (ae (xv 0)) (ai)) (ai)) (aa (au aV aw (ai) (au bj bq (au bd bR (ae (xv 0)) (ai)) (ai))) (aa (au bj bq (au bd bR (ae (xv 0)) (ai)) (ai)) (aa (au oW oZ (ae (xv 2)) (ai)) (aj))))))))) (aC (aQ (aO (aa (cO) (aa (ae (xv 3)) (aa (j7 (de hr.units) aw (au bj bq (au bd bR (ae (xv 0)) (ai)) (ai)) (ai) (cj _)) (aj)))))))))⟩
def wv{n:Nat}{f:Si}(dG:Callee P w K mg base 1 "_law_plain" ["_law_x"] (aN dF 1 8))(aE:Callee P w K mg base 1 "_law_next" ["_law_x"] (aN aJ 1 1))(ca:Callee P w K mg base 1 "_law_name" ["_law_base","_law_k"] (aN bU 2 7))(bX:mg "range"=none)(aH:mg "tuple"=none){bu:List D->R D}(nF:Callee P w K mg base (1+n) "_law_kind" ["_law_x","_law_base","_law_deep"] bu)(L__law_kind:Ar 3 bu){aS:List D->R D}(dj:Callee P w K mg base (1+n) "_law_form" ["_law_x","_law_base","_law_start","_law_many","_law_more","_law_deep"] aS)(L__law_form:Ar 6 aS):cJ P w K mg base (1+n) ["_law_x","_law_base","_law_start","_law_many","_law_more","_law_deep","_law_key","_law_rest","_law_k"] "_law_form" ji f (j8 bu aS):=
 ⟨λcdv A outer s H E hr hp=>(ao (fP (i:=6) xK.nd rfl ‹1› (jx (aj))) (ao (fP (i:=7) xK.nd rfl ‹1› (jx (aj))) (ao (fQ hp rfl (iM rfl bX (aa (au aV aw (ae (xv 3)) (ae (xv 4))) (aj))) (aF (i:=8) xK.nd rfl ‹1›) (ao (aB (i:=0) xK.nd rfl ‹1› (ax aE aK hr ‹0› (aa (ae (xv 0)) (aj)))) (ao (cG (bC (qG hr.units) aw (ae (xv 8)) (ae (xv 3)) (cj _)) (aC (kz Sb Sd eI fu (xv 6) (aa (aO (aa (ax ca aK hr ‹0› (aa (ae (xv 1)) (aa (au aV aw (ae (xv 2)) (ae (xv 8))) (aj)))) (aa (ax dG aK hr ‹0› (aa (ae (xv 0)) (aj))) (aj)))) (aj)))) (aC (kz Sb Sd eI fu (xv 7) (aa (aO (aa (ax ca aK hr ‹0› (aa (ae (xv 1)) (aa (au aV aw (ae (xv 2)) (ae (xv 8))) (aj)))) (aa (ax nF L__law_kind hr ‹0› (aa (ae (xv 0)) (aa (ae (xv 1)) (aa (ae (xv 5)) (aj))))) (aj)))) (aj))))) (cA [8] bc)))) (d7 7 (d7 6 (aC (aQ (aO (aa (bB bW rfl aH R3 (aa (ae (xv 6)) (aj))) (aa (bB bW rfl aH R3 (aa (ae (xv 7)) (aj))) (aj)))))))))))⟩
def oR{f__law_kind:Si}{fd__law_kind:S7}(F__law_kind:uG K "_law_kind" "_law_kind" jj f__law_kind fd__law_kind)(nG:Binds K fd__law_kind ["_law_x","_law_base","_law_deep"] [])(m__law_kind:mg "_law_kind"=some (.ref f__law_kind)){f__law_form:Si}{fd__law_form:S7}(F__law_form:uG K "_law_form" "_law_form" ji f__law_form fd__law_form)(mY:Binds K fd__law_form ["_law_x","_law_base","_law_start","_law_many","_law_more","_law_deep"] [])(m__law_form:mg "_law_form"=some (.ref f__law_form))(dG:Callee P w K mg base 1 "_law_plain" ["_law_x"] (aN dF 1 8))(aE:Callee P w K mg base 1 "_law_next" ["_law_x"] (aN aJ 1 1))(ca:Callee P w K mg base 1 "_law_name" ["_law_base","_law_k"] (aN bU 2 7))(bX:mg "range"=none)(aH:mg "tuple"=none):∀n:Nat,Callee P w K mg base (1+n) "_law_kind" ["_law_x","_law_base","_law_deep"] (bu n)/\Callee P w K mg base (1+n) "_law_form" ["_law_x","_law_base","_law_start","_law_many","_law_more","_law_deep"] (aS n)
 |0=>by
  rw[bu];rw[aS];exact⟨dX 1 F__law_kind nG m__law_kind,dX 1 F__law_form mY m__law_form⟩
 |n+1=>by
  have ih:=oR F__law_kind nG m__law_kind F__law_form mY m__law_form dG aE ca bX aH n;rw[gq];rw[iF];exact⟨aY F__law_kind nG m__law_kind xA (cJ.ok (xC dG aE ca bX aH ih.1 (mO n) ih.2 (eK n))),aY F__law_form mY m__law_form xK (cJ.ok (wv dG aE ca bX aH ih.1 (mO n) ih.2 (eK n)))⟩
def o7{f:Si}(dM:mg "sorted"=none)(fE:mg "list"=none):cJ P w K mg base 0 ["_law_x","_law_letters","_law_one","_law_other","_law_kept","_law_word"] "_law_some_words" fW f d9:=
 ⟨λcdv A outer s H E hr hp=>(ao (aB (i:=1) oX.nd rfl ‹1› (cO)) (ao (aB (i:=2) oX.nd rfl ‹1› (az (ae (xv 1)) (au bj bq (ae (xv 0)) (ai)) (λ_ _=>rfl))) (ao (aB (i:=3) oX.nd rfl ‹1› (az (ae (xv 1)) (au bj bq (au bd bR (ae (xv 0)) (ai)) (ai)) (λ_ _=>rfl))) (ao (fP (i:=4) oX.nd rfl ‹1› (nY)) (cA [0,1] (ao (fQ hp rfl (bJ (eG (aa (cO) (aa (ae (xv 2)) (aa (ae (xv 3)) (aa (au aV aw (ae (xv 2)) (ae (xv 3))) (aa (au aV aw (ae (xv 3)) (ae (xv 2))) (aa (au p9 aw (ae (xv 2)) (ai)) (aa (au aV aw (ae (xv 2)) (ae (xv 2))) (aa (au p9 aw (ae (xv 3)) (ai)) (aj))))))))))) (aF (i:=5) oX.nd rfl ‹1›) (ao (t7 (hr.units) (xv 4) (ae (xv 5)) (jo)) (cA [5] bc))) (d7 4 (aC (aQ (aW jB rfl dM hZ (aa (bB (tx rfl) rfl fE R4 (aa (ae (xv 4)) (aj))) (aj))))))))))))⟩
def pD{f:Si}(aE:Callee P w K mg base 1 "_law_next" ["_law_x"] (aN aJ 1 1))(iq:Callee P w K mg base 1 "_law_some_words" ["_law_x"] (aN d9 1 6))(bA:mg "len"=none)(aH:mg "tuple"=none)(j9:mg "enumerate"=none):cJ P w K mg base 1 ["_law_x","_law_y","_law_low","_law_wide","_law_far","_law_one","_law_other","_law_some","_law_spare"] "_law_two_kinds" gx f eM:=
 ⟨λcdv A outer s H E hr hp=>(ao (aB (i:=1) pT.nd rfl ‹1› (ax aE aK hr ‹0› (aa (ae (xv 0)) (aj)))) (ao (aB (i:=2) pT.nd rfl ‹1› (az (eG (aa (ai) (aa (rZ (ai)) (aa (au oW oZ (ai) (au bj bq (au iG iR (ae (xv 1)) (ai)) (au iG iR (ai) (ai)))) (aa (au bj bq (au iG iR (ae (xv 1)) (ai)) (au iG iR (ai) (ai))) (aj)))))) (au bj bq (au bd bR (ae (xv 0)) (ai)) (ai)) (λ_ _=>rfl))) (ao (aB (i:=3) pT.nd rfl ‹1› (az (eG (aa (ai) (aa (ai) (aa (ai) (aa (au iG iR (ai) (ai)) (aj)))))) (au bj bq (au bd bR (ae (xv 0)) (ai)) (ai)) (λ_ _=>rfl))) (ao (aB (i:=4) pT.nd rfl ‹1› (au bj bq (au iG iR (ae (xv 1)) (ai)) (au aV aw (ae (xv 3)) (ai)))) (ao (aB (i:=5) pT.nd rfl ‹1› (aO (aa (cO) (aa (ae (xv 2)) (aa (au aV aw (ae (xv 2)) (ae (xv 3))) (aj)))))) (ao (aB (i:=6) pT.nd rfl ‹1› (aO (aa (cO) (aa (au aV aw (ae (xv 2)) (ae (xv 4))) (aa (au aV aw (au aV aw (ae (xv 2)) (ae (xv 4))) (az (eG (aa (ai) (aa (ai) (aa (ai) (aa (au iG iR (ai) (ai)) (aj)))))) (au bj bq (au bd bR (ae (xv 0)) (ai)) (ai)) (λ_ _=>rfl))) (aj)))))) (ao (cG (bC (de hr.units) aw (au bj bq (ae (xv 0)) (ai)) (ai) (cj _)) (ao (aB (i:=7) pT.nd rfl ‹1› (ax iq aK hr ‹0› (aa (au bd bR (ae (xv 0)) (ai)) (aj)))) (ao (aB (i:=8) pT.nd rfl ‹1› (az (ae (xv 7)) (au bj bq (ae (xv 1)) (aW bN rfl bA PySem.boot_len (aa (ae (xv 7)) (aj)))) (λ_ _=>rfl))) (ao (aB (i:=5) pT.nd rfl ‹1› (aO (aa (cO) (aa (bB bW rfl aH R3 (aa (cR (N:=["_law_k","_law_word","_law_spare","_law_y"]) (ix:=[none,none,some 8,some 1]) rfl (.of rfl) (eX rfl) (oP rfl j9 (aa (ae (xv 7)) (aj))) ⟨λ_ _ _ _ _ _=>⟨fM (g:=kI [0,1]) rfl (bF (aF (i:=0) HB rfl (Or.inl rfl)) (bF (aF (i:=1) HB rfl (Or.inl rfl)) (dZ))),e9 (Kh (uD (bC (de hr.units) aw (ae (xv 1)) (ae (xv 2)) (cj _)) (pU (bC (de hr.units) aw (au zQ zZ (au Ak zL (au bd bR (ae (xv 3)) (ai)) (ae (xv 0))) (ai)) (ai) (cj _))))),ae (xv 1)⟩⟩) (aj))) (aj))))) (aC (aB (i:=6) pT.nd rfl ‹1› (aO (aa (cO) (aa (bB bW rfl aH R3 (aa (cR (N:=["_law_k","_law_word","_law_spare","_law_y"]) (ix:=[none,none,some 8,some 1]) rfl (.of rfl) (eX rfl) (oP rfl j9 (aa (ae (xv 7)) (aj))) ⟨λ_ _ _ _ _ _=>⟨fM (g:=kI [0,1]) rfl (bF (aF (i:=0) Hg rfl (Or.inl rfl)) (bF (aF (i:=1) Hg rfl (Or.inl rfl)) (dZ))),e9 (Kh (uD (bC (de hr.units) aw (ae (xv 1)) (ae (xv 2)) (cj _)) (pU (bC (de hr.units) aw (au zQ zZ (au Ak zL (au bd bR (ae (xv 3)) (ai)) (ae (xv 0))) (ai)) (ai) (cj _))))),ae (xv 1)⟩⟩) (aj))) (aj))))))))) (bc)) (ao (cG (bC (de hr.units) aw (au bj bq (au bd bR (ae (xv 0)) (ai)) (ai)) (ai) (cj _)) (aC (aQ (aO (aa (ae (xv 6)) (aa (ae (xv 5)) (aj)))))) (bc)) (aC (aQ (aO (aa (ae (xv 5)) (aa (ae (xv 6)) (aj))))))))))))))⟩
def qE{f:Si}(aE:Callee P w K mg base 1 "_law_next" ["_law_x"] (aN aJ 1 1))(iP:Callee P w K mg base 2 "_law_two_kinds" ["_law_x"] (aN eM 1 9))(ca:Callee P w K mg base 1 "_law_name" ["_law_base","_law_k"] (aN bU 2 7))(bX:mg "range"=none)(aH:mg "tuple"=none):cJ P w K mg base 2 ["_law_x","_law_base","_law_many","_law_one","_law_other","_law_k","_law_kinds"] "_law_two_keys" gK f du:=
 ⟨λcdv A outer s H E hr hp=>(ao (fP (i:=3) qj.nd rfl ‹1› (jx (aj))) (ao (fP (i:=4) qj.nd rfl ‹1› (jx (aj))) (ao (fQ hp rfl (iM rfl bX (aa (ae (xv 2)) (aj))) (aF (i:=5) qj.nd rfl ‹1›) (ao (aB (i:=0) qj.nd rfl ‹1› (ax aE aK hr ‹0› (aa (ae (xv 0)) (aj)))) (ao (aB (i:=6) qj.nd rfl ‹1› (ax iP aK hr ‹0› (aa (ae (xv 0)) (aj)))) (ao (kz Sb Sd eI fu (xv 3) (aa (aO (aa (ax ca aK hr ‹0› (aa (ae (xv 1)) (aa (ae (xv 5)) (aj)))) (aa (az (ae (xv 6)) (ai) (λ_ _=>rfl)) (aj)))) (aj))) (ao (kz Sb Sd eI fu (xv 4) (aa (aO (aa (ax ca aK hr ‹0› (aa (ae (xv 1)) (aa (ae (xv 5)) (aj)))) (aa (az (ae (xv 6)) (ai) (λ_ _=>rfl)) (aj)))) (aj))) (cA [5,6] bc)))))) (d7 4 (d7 3 (aC (aQ (aO (aa (bB bW rfl aH R3 (aa (ae (xv 3)) (aj))) (aa (bB bW rfl aH R3 (aa (ae (xv 4)) (aj))) (aj)))))))))))⟩
def lL{f:Si}(cy:Callee P w K mg base 2 "_law_seed" ["_law_script","_law_k"] (aN bV 2 3))(cm:Callee P w K mg base 1 "_law_cell_at" ["_law_script","_law_k"] (aN cf 2 2))(dW:Callee P w K mg base 3 "_law_two_keys" ["_law_x","_law_base","_law_many"] (aN du 3 7))(aE:Callee P w K mg base 1 "_law_next" ["_law_x"] (aN aJ 1 1))(dj:Callee P w K mg base 13 "_law_form" ["_law_x","_law_base","_law_start","_law_many","_law_more","_law_deep"] (aS 12))(mF:mg "min"=none):cJ P w K mg base 13 ["_law_script","_law_x","_law_base","_law_many","_law_keys","_law_deep","_law_more","_law_first","_law_wide","_law_inner"] "_law_gathered_forms" dU f cT:=
 ⟨λcdv A outer s H E hr hp=>(ao (aB (i:=1) lR.nd rfl ‹1› (ax cy aK hr ‹0› (aa (ae (xv 0)) (aa (ai) (aj))))) (ao (aB (i:=2) lR.nd rfl ‹1› (au bj bq (au jS jM (ax cm aK hr ‹0› (aa (ae (xv 0)) (aa (ai) (aj)))) (ai)) (ai))) (ao (aB (i:=3) lR.nd rfl ‹1› (az (eG (aa (ai) (aa (ai) (aa (ai) (aa (ai) (aa (ai) (aa (ai) (aa (ai) (aa (au aV aw (ai) (au bj bq (au bd bR (ae (xv 1)) (ai)) (ai))) (aj)))))))))) (au bj bq (ae (xv 1)) (ai)) (λ_ _=>rfl))) (ao (aB (i:=4) lR.nd rfl ‹1› (ax dW aK hr ‹0› (aa (ax aE aK hr ‹0› (aa (ae (xv 1)) (aj))) (aa (ae (xv 2)) (aa (ae (xv 3)) (aj)))))) (ao (aB (i:=5) lR.nd rfl ‹1› (az (eG (aa (ai) (aa (ai) (aa (ai) (aa (ai) (aj)))))) (au bj bq (au bd bR (ae (xv 1)) (ai)) (ai)) (λ_ _=>rfl))) (ao (aB (i:=6) lR.nd rfl ‹1› (au bj bq (au bd bR (ae (xv 1)) (ai)) (ai))) (ao (cG (bC (de hr.units) aw (au bj bq (au bd bR (ae (xv 1)) (ai)) (ai)) (ai) (cj _)) (ao (aB (i:=6) lR.nd rfl ‹1› (au bj bq (au bd bR (ae (xv 1)) (ai)) (ai))) (aC (aB (i:=5) lR.nd rfl ‹1› (ai)))) (bc)) (ao (aB (i:=7) lR.nd rfl ‹1› (az (ax dj (eK 12) hr ‹0› (aa (au aV aw (ax aE aK hr ‹0› (aa (ae (xv 1)) (aj))) (ai)) (aa (ae (xv 2)) (aa (ai) (aa (ai) (aa (ae (xv 6)) (aa (ae (xv 5)) (aj)))))))) (ai) (λ_ _=>rfl))) (ao (aB (i:=8) lR.nd rfl ‹1› (au aV aw (ai) (au bj bq (au bd bR (ae (xv 1)) (ai)) (aW (mj rfl) rfl mF R7 (aa (ai) (aa (au oW oZ (ai) (ae (xv 3))) (aj))))))) (ao (aB (i:=9) lR.nd rfl ‹1› (ax dj (eK 12) hr ‹0› (aa (au aV aw (ax aE aK hr ‹0› (aa (ae (xv 1)) (aj))) (ai)) (aa (ae (xv 2)) (aa (az (eG (aa (ai) (aa (ai) (aj)))) (au bj bq (au bd bR (ae (xv 1)) (ai)) (ai)) (λ_ _=>rfl)) (aa (ae (xv 8)) (aa (au bj bq (au bd bR (ae (xv 1)) (ai)) (ai)) (aa (ae (xv 5)) (aj))))))))) (aC (aQ (aO (aa (aO (aa (az (ae (xv 4)) (ai) (λ_ _=>rfl)) (aa (ae (xv 7)) (aj)))) (aa (aO (aa (au aV aw (az (ae (xv 4)) (ai) (λ_ _=>rfl)) (az (ae (xv 9)) (ai) (λ_ _=>rfl))) (aa (az (ae (xv 9)) (ai) (λ_ _=>rfl)) (aj)))) (aj))))))))))))))))⟩
def nA{f:Si}(eL:Callee P w K mg base 15 "_law_rows_of" ["_law_many","_law_fields","_law_script"] (aN dQ 3 5))(cV:Callee P w K mg base 2 "_law_key_of_both" ["_law_one","_law_other"] (aN ce 2 5))(cY:Callee P w K mg base 12 "_law_alike" ["_law_found","_law_due"] (aM 12))(bY:oM P w K mg base 15 "put" ["self","forms","tables","view"] [("Pair",(aN bG 4 4)),("Join",(aN bf 4 10)),("Gather",(aN aR 4 9))])(N_Join:A0 K mg "Join")(bA:mg "len"=none)(aH:mg "tuple"=none):cJ P w K mg base 15 ["_law_one","_law_other","_law_script","_law_many","_law_wide","_law_view","_law_pair","_law_first","_law_second","_law_due"] "_law_join_forgets" eF f dC:=
 ⟨λcdv A outer s H E hr hp=>(ao (aB (i:=3) ny.nd rfl ‹1› (aW bN rfl bA PySem.boot_len (aa (az (ae (xv 0)) (ai) (λ_ _=>rfl)) (aj)))) (ao (aB (i:=4) ny.nd rfl ‹1› (au aV aw (ae (xv 3)) (aW bN rfl bA PySem.boot_len (aa (az (ae (xv 0)) (ai) (λ_ _=>rfl)) (aj))))) (ao (aB (i:=5) ny.nd rfl ‹1› (ax eL aK hr ‹0› (aa (ae (xv 3)) (aa (au aV aw (au aV aw (ax cV aK hr ‹0› (aa (ae (xv 0)) (aa (ae (xv 1)) (aj)))) (az (ae (xv 0)) (ai) (λ_ _=>rfl))) (az (ae (xv 1)) (ai) (λ_ _=>rfl))) (aa (ae (xv 2)) (aj)))))) (ao (aB (i:=6) ny.nd rfl ‹1› (D5 N_Join rfl)) (ao (aB (i:=7) ny.nd rfl ‹1› (kX bY hr ‹0› (ae (xv 6)) (aa (aO (aa (ae (xv 0)) (aa (ae (xv 1)) (aj)))) (aa (aO (aa (aO (aj)) (aa (aO (aj)) (aj)))) (aa (ae (xv 5)) (aj)))))) (ao (aB (i:=8) ny.nd rfl ‹1› (kX bY hr ‹0› (ae (xv 6)) (aa (aO (aa (ae (xv 0)) (aa (ae (xv 1)) (aj)))) (aa (ae (xv 7)) (aa (aO (aj)) (aj)))))) (ao (aB (i:=9) ny.nd rfl ‹1› (bB bW rfl aH R3 (aa (cR (N:=["_law_row_here","_law_many","_law_wide"]) (ix:=[none,some 3,some 4]) rfl (.of rfl) (bE rfl) (bJ (ae (xv 5))) ⟨λ_ _ _ _ _ _=>⟨aF (i:=0) KC rfl (Or.inl rfl),cn,au aV aw (cw (ae (xv 0)) (cM) (cN (ae (xv 1)))) (cw (ae (xv 0)) (cN (ae (xv 2))) (cM))⟩⟩) (aj)))) (aC (aQ (gH (ax cY (fm 12) hr ‹0› (aa (ae (xv 8)) (aa (aO (aa (aO (aj)) (aa (ae (xv 9)) (aj)))) (aj)))) (gO (ax cY (fm 12) hr ‹0› (aa (kX bY hr ‹0› (ae (xv 6)) (aa (aO (aa (ae (xv 0)) (aa (ae (xv 1)) (aj)))) (aa (aO (aa (aO (aj)) (aa (aO (aj)) (aj)))) (aa (aO (aj)) (aj))))) (aa (aO (aa (aO (aj)) (aa (aO (aj)) (aj)))) (aj)))))))))))))))⟩
def nB{f:Si}(cy:Callee P w K mg base 2 "_law_seed" ["_law_script","_law_k"] (aN bV 2 3))(cm:Callee P w K mg base 1 "_law_cell_at" ["_law_script","_law_k"] (aN cf 2 2))(dW:Callee P w K mg base 3 "_law_two_keys" ["_law_x","_law_base","_law_many"] (aN du 3 7))(aE:Callee P w K mg base 1 "_law_next" ["_law_x"] (aN aJ 1 1))(dj:Callee P w K mg base 13 "_law_form" ["_law_x","_law_base","_law_start","_law_many","_law_more","_law_deep"] (aS 12)):cJ P w K mg base 13 ["_law_script","_law_x","_law_base","_law_keys","_law_deep","_law_more","_law_first","_law_last"] "_law_joined_forms" eE f dB:=
 ⟨λcdv A outer s H E hr hp=>(ao (aB (i:=1) mV.nd rfl ‹1› (ax cy aK hr ‹0› (aa (ae (xv 0)) (aa (ai) (aj))))) (ao (aB (i:=2) mV.nd rfl ‹1› (au bj bq (au jS jM (ax cm aK hr ‹0› (aa (ae (xv 0)) (aa (ai) (aj)))) (ai)) (ai))) (ao (aB (i:=3) mV.nd rfl ‹1› (ax dW aK hr ‹0› (aa (ax aE aK hr ‹0› (aa (ae (xv 1)) (aj))) (aa (ae (xv 2)) (aa (az (eG (aa (ai) (aa (ai) (aa (ai) (aa (ai) (aa (ai) (aa (ai) (aa (ai) (aa (au aV aw (ai) (au bj bq (au bd bR (ae (xv 1)) (ai)) (ai))) (aj)))))))))) (au bj bq (ae (xv 1)) (ai)) (λ_ _=>rfl)) (aj)))))) (ao (aB (i:=4) mV.nd rfl ‹1› (az (eG (aa (ai) (aa (ai) (aa (ai) (aa (ai) (aj)))))) (au bj bq (au bd bR (ae (xv 1)) (ai)) (ai)) (λ_ _=>rfl))) (ao (aB (i:=5) mV.nd rfl ‹1› (eG (aa (au bj bq (au bd bR (ae (xv 1)) (ai)) (ai)) (aa (au bj bq (au bd bR (ae (xv 1)) (ai)) (ai)) (aj))))) (ao (cG (bC (de hr.units) aw (au bj bq (au bd bR (ae (xv 1)) (ai)) (ai)) (ai) (cj _)) (ao (aB (i:=5) mV.nd rfl ‹1› (eG (aa (au bj bq (au bd bR (ae (xv 1)) (ai)) (ai)) (aa (au oW oZ (ai) (au bj bq (au bd bR (ae (xv 1)) (ai)) (ai))) (aj))))) (aC (aB (i:=4) mV.nd rfl ‹1› (ai)))) (bc)) (ao (aB (i:=6) mV.nd rfl ‹1› (az (ax dj (eK 12) hr ‹0› (aa (au aV aw (ax aE aK hr ‹0› (aa (ae (xv 1)) (aj))) (ai)) (aa (ae (xv 2)) (aa (ai) (aa (ai) (aa (az (ae (xv 5)) (ai) (λ_ _=>rfl)) (aa (ae (xv 4)) (aj)))))))) (ai) (λ_ _=>rfl))) (ao (aB (i:=7) mV.nd rfl ‹1› (az (ax dj (eK 12) hr ‹0› (aa (au aV aw (ax aE aK hr ‹0› (aa (ae (xv 1)) (aj))) (ai)) (aa (ae (xv 2)) (aa (ai) (aa (ai) (aa (az (ae (xv 5)) (ai) (λ_ _=>rfl)) (aa (ae (xv 4)) (aj)))))))) (ai) (λ_ _=>rfl))) (aC (aQ (aO (aa (aO (aa (az (ae (xv 3)) (ai) (λ_ _=>rfl)) (aa (ae (xv 6)) (aj)))) (aa (aO (aa (az (ae (xv 3)) (ai) (λ_ _=>rfl)) (aa (ae (xv 7)) (aj)))) (aj))))))))))))))⟩
def Jq{f:Si}{fd:S7}(F:uG K "law" "law" tG f fd)(gB:Callee P w K mg base 14 "_law_joined_forms" ["_law_script"] (aN dB 1 8))(gA:Callee P w K mg base 16 "_law_join_forgets" ["_law_one","_law_other","_law_script"] (aN dC 3 10))(fF:Callee P w K mg base 14 "_law_gathered_forms" ["_law_script"] (aN cT 1 10))(fA:Callee P w K mg base 16 "_law_gather_forgets" ["_law_one","_law_other","_law_name_here","_law_script"] (aN cS 4 16))(gg:Callee P w K mg base 3 "_law_gathered_name" ["_law_one","_law_other","_law_script"] (aN df 3 7)):jV P w K mg base (oN P w) 17 f fd ["_law_script"] (C2 K 1 (aN sO 1 3)):=
 ww (k:=16) F IX (cJ.ok ⟨λcdv A outer s H E hr hp=>(ao (Be (ax gB aK hr ‹0› (aa (ae (xv 0)) (aj))) (fM (g:=kI [1,2]) rfl (bF (aF (i:=1) IX.nd rfl ‹1›) (bF (aF (i:=2) IX.nd rfl ‹1›) (dZ))))) (ao (cG (pF (fw (ax gA aK hr ‹0› (aa (ae (xv 1)) (aa (ae (xv 2)) (aa (ae (xv 0)) (aj))))))) (aC (aQ (jo))) (bc)) (ao (Be (ax fF aK hr ‹0› (aa (ae (xv 0)) (aj))) (fM (g:=kI [1,2]) rfl (bF (aF (i:=1) IX.nd rfl ‹1›) (bF (aF (i:=2) IX.nd rfl ‹1›) (dZ))))) (aC (aQ (ax fA aK hr ‹0› (aa (ae (xv 1)) (aa (ae (xv 2)) (aa (ax gg aK hr ‹0› (aa (ae (xv 1)) (aa (ae (xv 2)) (aa (ae (xv 0)) (aj))))) (aa (ae (xv 0)) (aj)))))))))))⟩)
def yR{C f:Si}{fd:S7}(h1:clsAt K "Gather" C)(hM:Mk K C f)(cl:Bz K C)(na:∀g∈(["name"]:List Str),qx K C g)(F:uG K "__init__" "Gather.__init__" fK f fd)(b:Binds K fd ["self","name"] [])(hmg:mg "Gather"=some (.ref C)):uw P w K mg base 1 "Gather" ["self","name"] ["name"]:=
 Cd (k:=0) h1 hM cl na F b hmg o5 rfl (by decide +kernel) (by decide) λcdv A outer s H E=>(B1 rfl (pv 0) (pv 1) rfl)
end
def yD{us:List Se}(h:us.length=1):∃u0,us=[u0]:=match us,h with|[u0],_=>⟨u0,rfl⟩
def kG{us:List Se}(h:us.length=2):∃u0 u1,us=[u0,u1]:=match us,h with|[u0,u1],_=>⟨u0,u1,rfl⟩
def yX{us:List Se}(h:us.length=3):∃u0 u1 u2,us=[u0,u1,u2]:=match us,h with|[u0,u1,u2],_=>⟨u0,u1,u2,rfl⟩
def DJ{us:List Se}(h:us.length=4):∃u0 u1 u2 u3,us=[u0,u1,u2,u3]:=match us,h with|[u0,u1,u2,u3],_=>⟨u0,u1,u2,u3,rfl⟩
def Mi{us:List Se}(h:us.length=6):∃u0 u1 u2 u3 u4 u5,us=[u0,u1,u2,u3,u4,u5]:=match us,h with|[u0,u1,u2,u3,u4,u5],_=>⟨u0,u1,u2,u3,u4,u5,rfl⟩
def all_mk{l:RC}{w:Sf}{K:Q7}{h:Sl}{mg:Str->Option Se}{fa:Si}(X:K.In h)(G:h.Ns Sr mg)(hfa:mg "law"=some (.ref fa)){f1 f2:Si}
  (ac0:Rw K Sr "Pair"=some (some (.ref Cl0)))
  (ac1:Rw K Sr "Join"=some (some (.ref Cl1)))
  (ac2:Rw K Sr "Gather"=some (some (.ref Cl2)))
  (a0:Rw K Sr "_law_alike"=some (some (.ref f0)))
  (l0:Lk K f0 "_law_alike" "_law_alike" h7 oc0 od0 kV0 dc0 pm0 an0 cd0 ct0 sl0)
  (c0:Rv K cd0 "_law_alike"=true)
  (k0:Rq K (.ref f0)=true)
  (a1:Ra K (.ref Cl0) "put"=some (some (.ref f1)))
  (i1:Rb K (.ref f1)=true)
  (l1:Lk K f1 "put" "Pair.put" mh oc1 od1 kV1 dc1 pm1 an1 cd1 ct1 sl1)
  (c1:Rv K cd1 "Pair.put"=true)
  (k1:Rq K (.ref f1)=true)
  (a2:Rw K Sr "sorted_by"=some (some (.ref f2)))
  (l2:Lk K f2 "sorted_by" "sorted_by" km oc2 od2 kV2 dc2 pm2 an2 cd2 ct2 sl2)
  (c2:Rv K cd2 "sorted_by"=true)
  (k2:Rq K (.ref f2)=true)
  (a3:Rw K Sr "by_key"=some (some (.ref f3)))
  (l3:Lk K f3 "by_key" "by_key" pP oc3 od3 kV3 dc3 pm3 an3 cd3 ct3 sl3)
  (c3:Rv K cd3 "by_key"=true)
  (k3:Rq K (.ref f3)=true)
  (a4:Rw K Sr "standing"=some (some (.ref f4)))
  (l4:Lk K f4 "standing" "standing" lS oc4 od4 kV4 dc4 pm4 an4 cd4 ct4 sl4)
  (c4:Rv K cd4 "standing"=true)
  (k4:Rq K (.ref f4)=true)
  (a5:Ra K (.ref Cl1) "put"=some (some (.ref f5)))
  (i5:Rb K (.ref f5)=true)
  (l5:Lk K f5 "put" "Join.put" mw oc5 od5 kV5 dc5 pm5 an5 cd5 ct5 sl5)
  (c5:Rv K cd5 "Join.put"=true)
  (k5:Rq K (.ref f5)=true)
  (a6:Rw K Sr "is_whole"=some (some (.ref f6)))
  (l6:Lk K f6 "is_whole" "is_whole" me oc6 od6 kV6 dc6 pm6 an6 cd6 ct6 sl6)
  (c6:Rv K cd6 "is_whole"=true)
  (k6:Rq K (.ref f6)=true)
  (a7:Rw K Sr "has_parts"=some (some (.ref f7)))
  (l7:Lk K f7 "has_parts" "has_parts" jW oc7 od7 kV7 dc7 pm7 an7 cd7 ct7 sl7)
  (c7:Rv K cd7 "has_parts"=true)
  (k7:Rq K (.ref f7)=true)
  (a8:Rw K Sr "keys_rise"=some (some (.ref f8)))
  (l8:Lk K f8 "keys_rise" "keys_rise" j4 oc8 od8 kV8 dc8 pm8 an8 cd8 ct8 sl8)
  (c8:Rv K cd8 "keys_rise"=true)
  (k8:Rq K (.ref f8)=true)
  (a9:Rw K Sr "kinds_of"=some (some (.ref f9)))
  (l9:Lk K f9 "kinds_of" "kinds_of" lZ oc9 od9 kV9 dc9 pm9 an9 cd9 ct9 sl9)
  (c9:Rv K cd9 "kinds_of"=true)
  (k9:Rq K (.ref f9)=true)
  (a10:Rw K Sr "fits"=some (some (.ref f10)))
  (l10:Lk K f10 "fits" "fits" tu oc10 od10 kV10 dc10 pm10 an10 cd10 ct10 sl10)
  (c10:Rv K cd10 "fits"=true)
  (k10:Rq K (.ref f10)=true)
  (a11:Rw K Sr "keeps"=some (some (.ref f11)))
  (l11:Lk K f11 "keeps" "keeps" pp oc11 od11 kV11 dc11 pm11 an11 cd11 ct11 sl11)
  (c11:Rv K cd11 "keeps"=true)
  (k11:Rq K (.ref f11)=true)
  (a12:Rw K Sr "is_row"=some (some (.ref f12)))
  (l12:Lk K f12 "is_row" "is_row" nE oc12 od12 kV12 dc12 pm12 an12 cd12 ct12 sl12)
  (c12:Rv K cd12 "is_row"=true)
  (k12:Rq K (.ref f12)=true)
  (a13:Rw K Sr "both_words"=some (some (.ref f13)))
  (l13:Lk K f13 "both_words" "both_words" jA oc13 od13 kV13 dc13 pm13 an13 cd13 ct13 sl13)
  (c13:Rv K cd13 "both_words"=true)
  (k13:Rq K (.ref f13)=true)
  (a14:Rw K Sr "both_numbers"=some (some (.ref f14)))
  (l14:Lk K f14 "both_numbers" "both_numbers" ic oc14 od14 kV14 dc14 pm14 an14 cd14 ct14 sl14)
  (c14:Rv K cd14 "both_numbers"=true)
  (k14:Rq K (.ref f14)=true)
  (a15:Rw K Sr "both"=some (some (.ref f15)))
  (l15:Lk K f15 "both" "both" xf oc15 od15 kV15 dc15 pm15 an15 cd15 ct15 sl15)
  (c15:Rv K cd15 "both"=true)
  (k15:Rq K (.ref f15)=true)
  (a16:Rw K Sr "shared_key"=some (some (.ref f16)))
  (l16:Lk K f16 "shared_key" "shared_key" jv oc16 od16 kV16 dc16 pm16 an16 cd16 ct16 sl16)
  (c16:Rv K cd16 "shared_key"=true)
  (k16:Rq K (.ref f16)=true)
  (a17:Rw K Sr "seen_rows"=some (some (.ref f17)))
  (l17:Lk K f17 "seen_rows" "seen_rows" ko oc17 od17 kV17 dc17 pm17 an17 cd17 ct17 sl17)
  (c17:Rv K cd17 "seen_rows"=true)
  (k17:Rq K (.ref f17)=true)
  (a18:Ra K (.ref Cl2) "put"=some (some (.ref f18)))
  (i18:Rb K (.ref f18)=true)
  (l18:Lk K f18 "put" "Gather.put" jw oc18 od18 kV18 dc18 pm18 an18 cd18 ct18 sl18)
  (c18:Rv K cd18 "Gather.put"=true)
  (k18:Rq K (.ref f18)=true)
  (a19:Rw K Sr "_law_next"=some (some (.ref f19)))
  (l19:Lk K f19 "_law_next" "_law_next" jZ oc19 od19 kV19 dc19 pm19 an19 cd19 ct19 sl19)
  (c19:Rv K cd19 "_law_next"=true)
  (k19:Rq K (.ref f19)=true)
  (a20:Rw K Sr "_law_sorted"=some (some (.ref f20)))
  (l20:Lk K f20 "_law_sorted" "_law_sorted" i9 oc20 od20 kV20 dc20 pm20 an20 cd20 ct20 sl20)
  (c20:Rv K cd20 "_law_sorted"=true)
  (k20:Rq K (.ref f20)=true)
  (a21:Rw K Sr "_law_value"=some (some (.ref f21)))
  (l21:Lk K f21 "_law_value" "_law_value" iC oc21 od21 kV21 dc21 pm21 an21 cd21 ct21 sl21)
  (c21:Rv K cd21 "_law_value"=true)
  (k21:Rq K (.ref f21)=true)
  (a22:Rw K Sr "_law_row"=some (some (.ref f22)))
  (l22:Lk K f22 "_law_row" "_law_row" jL oc22 od22 kV22 dc22 pm22 an22 cd22 ct22 sl22)
  (c22:Rv K cd22 "_law_row"=true)
  (k22:Rq K (.ref f22)=true)
  (a23:Rw K Sr "_law_rows"=some (some (.ref f23)))
  (l23:Lk K f23 "_law_rows" "_law_rows" jh oc23 od23 kV23 dc23 pm23 an23 cd23 ct23 sl23)
  (c23:Rv K cd23 "_law_rows"=true)
  (k23:Rq K (.ref f23)=true)
  (a24:Rw K Sr "_law_values"=some (some (.ref f24)))
  (l24:Lk K f24 "_law_values" "_law_values" i6 oc24 od24 kV24 dc24 pm24 an24 cd24 ct24 sl24)
  (c24:Rv K cd24 "_law_values"=true)
  (k24:Rq K (.ref f24)=true)
  (a25:Rw K Sr "_law_cell_at"=some (some (.ref f25)))
  (l25:Lk K f25 "_law_cell_at" "_law_cell_at" iw oc25 od25 kV25 dc25 pm25 an25 cd25 ct25 sl25)
  (c25:Rv K cd25 "_law_cell_at"=true)
  (k25:Rq K (.ref f25)=true)
  (a26:Rw K Sr "_law_seed"=some (some (.ref f26)))
  (l26:Lk K f26 "_law_seed" "_law_seed" j5 oc26 od26 kV26 dc26 pm26 an26 cd26 ct26 sl26)
  (c26:Rv K cd26 "_law_seed"=true)
  (k26:Rq K (.ref f26)=true)
  (a27:Rw K Sr "_law_rows_of"=some (some (.ref f27)))
  (l27:Lk K f27 "_law_rows_of" "_law_rows_of" il oc27 od27 kV27 dc27 pm27 an27 cd27 ct27 sl27)
  (c27:Rv K cd27 "_law_rows_of"=true)
  (k27:Rq K (.ref f27)=true)
  (a28:Rw K Sr "_law_in_both"=some (some (.ref f28)))
  (l28:Lk K f28 "_law_in_both" "_law_in_both" hJ oc28 od28 kV28 dc28 pm28 an28 cd28 ct28 sl28)
  (c28:Rv K cd28 "_law_in_both"=true)
  (k28:Rq K (.ref f28)=true)
  (a29:Rw K Sr "_law_key_of_both"=some (some (.ref f29)))
  (l29:Lk K f29 "_law_key_of_both" "_law_key_of_both" eY oc29 od29 kV29 dc29 pm29 an29 cd29 ct29 sl29)
  (c29:Rv K cd29 "_law_key_of_both"=true)
  (k29:Rq K (.ref f29)=true)
  (a30:Rw K Sr "_law_gather_forgets"=some (some (.ref f30)))
  (l30:Lk K f30 "_law_gather_forgets" "_law_gather_forgets" dS oc30 od30 kV30 dc30 pm30 an30 cd30 ct30 sl30)
  (c30:Rv K cd30 "_law_gather_forgets"=true)
  (k30:Rq K (.ref f30)=true)
  (a31:Rw K Sr "_law_name"=some (some (.ref f31)))
  (l31:Lk K f31 "_law_name" "_law_name" kn oc31 od31 kV31 dc31 pm31 an31 cd31 ct31 sl31)
  (c31:Rv K cd31 "_law_name"=true)
  (k31:Rq K (.ref f31)=true)
  (a32:Rw K Sr "_law_gathered_name"=some (some (.ref f32)))
  (l32:Lk K f32 "_law_gathered_name" "_law_gathered_name" eh oc32 od32 kV32 dc32 pm32 an32 cd32 ct32 sl32)
  (c32:Rv K cd32 "_law_gathered_name"=true)
  (k32:Rq K (.ref f32)=true)
  (a33:Rw K Sr "_law_plain"=some (some (.ref f33)))
  (l33:Lk K f33 "_law_plain" "_law_plain" jy oc33 od33 kV33 dc33 pm33 an33 cd33 ct33 sl33)
  (c33:Rv K cd33 "_law_plain"=true)
  (k33:Rq K (.ref f33)=true)
  (a34:Rw K Sr "_law_kind"=some (some (.ref f34)))
  (l34:Lk K f34 "_law_kind" "_law_kind" jj oc34 od34 kV34 dc34 pm34 an34 cd34 ct34 sl34)
  (c34:Rv K cd34 "_law_kind"=true)
  (k34:Rq K (.ref f34)=true)
  (a35:Rw K Sr "_law_form"=some (some (.ref f35)))
  (l35:Lk K f35 "_law_form" "_law_form" ji oc35 od35 kV35 dc35 pm35 an35 cd35 ct35 sl35)
  (c35:Rv K cd35 "_law_form"=true)
  (k35:Rq K (.ref f35)=true)
  (a36:Rw K Sr "_law_some_words"=some (some (.ref f36)))
  (l36:Lk K f36 "_law_some_words" "_law_some_words" fW oc36 od36 kV36 dc36 pm36 an36 cd36 ct36 sl36)
  (c36:Rv K cd36 "_law_some_words"=true)
  (k36:Rq K (.ref f36)=true)
  (a37:Rw K Sr "_law_two_kinds"=some (some (.ref f37)))
  (l37:Lk K f37 "_law_two_kinds" "_law_two_kinds" gx oc37 od37 kV37 dc37 pm37 an37 cd37 ct37 sl37)
  (c37:Rv K cd37 "_law_two_kinds"=true)
  (k37:Rq K (.ref f37)=true)
  (a38:Rw K Sr "_law_two_keys"=some (some (.ref f38)))
  (l38:Lk K f38 "_law_two_keys" "_law_two_keys" gK oc38 od38 kV38 dc38 pm38 an38 cd38 ct38 sl38)
  (c38:Rv K cd38 "_law_two_keys"=true)
  (k38:Rq K (.ref f38)=true)
  (a39:Rw K Sr "_law_gathered_forms"=some (some (.ref f39)))
  (l39:Lk K f39 "_law_gathered_forms" "_law_gathered_forms" dU oc39 od39 kV39 dc39 pm39 an39 cd39 ct39 sl39)
  (c39:Rv K cd39 "_law_gathered_forms"=true)
  (k39:Rq K (.ref f39)=true)
  (a40:Rw K Sr "_law_join_forgets"=some (some (.ref f40)))
  (l40:Lk K f40 "_law_join_forgets" "_law_join_forgets" eF oc40 od40 kV40 dc40 pm40 an40 cd40 ct40 sl40)
  (c40:Rv K cd40 "_law_join_forgets"=true)
  (k40:Rq K (.ref f40)=true)
  (a41:Rw K Sr "_law_joined_forms"=some (some (.ref f41)))
  (l41:Lk K f41 "_law_joined_forms" "_law_joined_forms" eE oc41 od41 kV41 dc41 pm41 an41 cd41 ct41 sl41)
  (c41:Rv K cd41 "_law_joined_forms"=true)
  (k41:Rq K (.ref f41)=true)
  (a42:Rw K Sr "law"=some (some (.ref f42)))
  (l42:Lk K f42 "law" "law" tG oc42 od42 kV42 dc42 pm42 an42 cd42 ct42 sl42)
  (c42:Rv K cd42 "law"=true)
  (k42:Rq K (.ref f42)=true)
  (a43:Ra K (.ref Cl2) "__init__"=some (some (.ref f43)))
  (i43:Rb K (.ref f43)=true)
  (l43:Lk K f43 "__init__" "Gather.__init__" fK oc43 od43 kV43 dc43 pm43 an43 cd43 ct43 sl43)
  (c43:Rv K cd43 "Gather.__init__"=true)
  (k43:Rq K (.ref f43)=true)
  (p0:Q9 K Cl0 Str.empty=true)
  (q0:Rh K Cl0=true)
  (r0:Rf K Cl0=true)
  (s0:Ra K (.ref Cl0) "__setattr__"=some (some (.builtin "object.__setattr__")))
  (p1:Q9 K Cl1 Str.empty=true)
  (q1:Rh K Cl1=true)
  (r1:Rf K Cl1=true)
  (s1:Ra K (.ref Cl1) "__setattr__"=some (some (.builtin "object.__setattr__")))
  (o1:Ra K (.ref Cl1) "__init__"=some (some (.builtin "object.__init__")))
  (m1:Ri K Cl1=true)
  (kp1:Rq K (.ref Cl1)=true)
  (p2:Q9 K Cl2 Str.empty=true)
  (q2:Rh K Cl2=true)
  (r2:Rf K Cl2=true)
  (s2:Ra K (.ref Cl2) "__setattr__"=some (some (.builtin "object.__setattr__")))
  (n2_0:Ra K (.ref Cl2) "name"=some none)
  (m2:Ri K Cl2=true)
  (kp2:Rq K (.ref Cl2)=true)
  (z0:Rw K Sr "isinstance"=some none)
  (z1:Rw K Sr "str"=some none)
  (z2:Rw K Sr "bool"=some none)
  (z3:Rw K Sr "int"=some none)
  (z4:Rw K Sr "tuple"=some none)
  (z5:Rw K Sr "len"=some none)
  (z6:Rw K Sr "zip"=some none)
  (z7:Rw K Sr "sorted"=some none)
  (z8:Rw K Sr "dict"=some none)
  (z9:Rw K Sr "list"=some none)
  (z10:Rw K Sr "all"=some none)
  (z11:Rw K Sr "range"=some none)
  (z12:Rw K Sr "max"=some none)
  (z13:Rw K Sr "min"=some none)
  (z14:Rw K Sr "enumerate"=some none)
  (lc:cd2=.ref cL)
  (lh:RE K cL T=true)
  (lt:K.lookup T=none):
  (∃c,RE K c T=true)/\K.lookup T=none/\∃fd:S7,(∀(s:Sw)(v:Se),S8 s fd ⟨[v],[]⟩ [("_law_script",v)])/\∀base:Sl,K.In base->base.Ns Sr mg->zP mg base->jV l.prog w K mg base (oN l.prog w) 17 fa fd ["_law_script"] (@C2 (xn T ⟨53,34,53,56⟩ ((("sorted_by":Str)++".<locals>.")++"<lambda>")) K 1 (aN sO 1 3)):=by
 letI:bh:=xn T ⟨53,34,53,56⟩ ((("sorted_by":Str)++".<locals>.")++"<lambda>")
 have e:=hfa.symm.trans (RF X G a42);cases e;have aP:=RG X G z0;have ja:=RG X G z1;have jm:=RG X G z2;have gX:=RG X G z3;have aH:=RG X G z4;have bA:=RG X G z5;have fV:=RG X G z6;have dM:=RG X G z7;have zB:=RG X G z8;have fE:=RG X G z9;have kr:=RG X G z10;have bX:=RG X G z11;have iu:=RG X G z12;have mF:=RG X G z13;have j9:=RG X G z14;have F0:=bK (st:=h7) l0 c0 k0;have b0:=F0.binds (ps:=["_law_found","_law_due"]) λ_ _ _ _ _ _ us hl=>by obtain⟨u0,u1,rfl⟩:=kG hl;rfl
 have F1:=bK (st:=mh) l1 c1 k1;have b1:=F1.binds (ps:=["self","forms","tables","view"]) λ_ _ _ _ _ _ us hl=>by obtain⟨u0,u1,u2,u3,rfl⟩:=DJ hl;rfl
 have F2:=bK (st:=km) l2 c2 k2;have b2:=F2.binds (ps:=["many","rows"]) λ_ _ _ _ _ _ us hl=>by obtain⟨u0,u1,rfl⟩:=kG hl;rfl
 have F3:=bK (st:=pP) l3 c3 k3;have b3:=F3.binds (ps:=["many","rows"]) λ_ _ _ _ _ _ us hl=>by obtain⟨u0,u1,rfl⟩:=kG hl;rfl
 have F4:=bK (st:=lS) l4 c4 k4;have b4:=F4.binds (ps:=["many","rows","others"]) λ_ _ _ _ _ _ us hl=>by obtain⟨u0,u1,u2,rfl⟩:=yX hl;rfl
 have F5:=bK (st:=mw) l5 c5 k5;have b5:=F5.binds (ps:=["self","forms","tables","view"]) λ_ _ _ _ _ _ us hl=>by obtain⟨u0,u1,u2,u3,rfl⟩:=DJ hl;rfl
 have F6:=bK (st:=me) l6 c6 k6;have b6:=F6.binds (ps:=["value"]) λ_ _ _ _ _ _ us hl=>by obtain⟨u0,rfl⟩:=yD hl;rfl
 have F7:=bK (st:=jW) l7 c7 k7;have b7:=F7.binds (ps:=["value","many"]) λ_ _ _ _ _ _ us hl=>by obtain⟨u0,u1,rfl⟩:=kG hl;rfl
 have F8:=bK (st:=j4) l8 c8 k8;have b8:=F8.binds (ps:=["many","table"]) λ_ _ _ _ _ _ us hl=>by obtain⟨u0,u1,rfl⟩:=kG hl;rfl
 have F9:=bK (st:=lZ) l9 c9 k9;have b9:=F9.binds (ps:=["form"]) λ_ _ _ _ _ _ us hl=>by obtain⟨u0,rfl⟩:=yD hl;rfl
 have F10:=bK (st:=tu) l10 c10 k10;have b10:=F10.binds (ps:=["kind","value"]) λ_ _ _ _ _ _ us hl=>by obtain⟨u0,u1,rfl⟩:=kG hl;rfl
 have F11:=bK (st:=pp) l11 c11 k11;have b11:=F11.binds (ps:=["form","table"]) λ_ _ _ _ _ _ us hl=>by obtain⟨u0,u1,rfl⟩:=kG hl;rfl
 have F12:=bK (st:=nE) l12 c12 k12;have b12:=F12.binds (ps:=["kinds","row"]) λ_ _ _ _ _ _ us hl=>by obtain⟨u0,u1,rfl⟩:=kG hl;rfl
 have F13:=bK (st:=jA) l13 c13 k13;have b13:=F13.binds (ps:=["one","other"]) λ_ _ _ _ _ _ us hl=>by obtain⟨u0,u1,rfl⟩:=kG hl;rfl
 have F14:=bK (st:=ic) l14 c14 k14;have b14:=F14.binds (ps:=["one","other"]) λ_ _ _ _ _ _ us hl=>by obtain⟨u0,u1,rfl⟩:=kG hl;rfl
 have F15:=bK (st:=xf) l15 c15 k15;have b15:=F15.binds (ps:=["one","other"]) λ_ _ _ _ _ _ us hl=>by obtain⟨u0,u1,rfl⟩:=kG hl;rfl
 have F16:=bK (st:=jv) l16 c16 k16;have b16:=F16.binds (ps:=["one","other"]) λ_ _ _ _ _ _ us hl=>by obtain⟨u0,u1,rfl⟩:=kG hl;rfl
 have F17:=bK (st:=ko) l17 c17 k17;have b17:=F17.binds (ps:=["forms","table","seen"]) λ_ _ _ _ _ _ us hl=>by obtain⟨u0,u1,u2,rfl⟩:=yX hl;rfl
 have F18:=bK (st:=jw) l18 c18 k18;have b18:=F18.binds (ps:=["self","forms","tables","view"]) λ_ _ _ _ _ _ us hl=>by obtain⟨u0,u1,u2,u3,rfl⟩:=DJ hl;rfl
 have F19:=bK (st:=jZ) l19 c19 k19;have b19:=F19.binds (ps:=["_law_x"]) λ_ _ _ _ _ _ us hl=>by obtain⟨u0,rfl⟩:=yD hl;rfl
 have F20:=bK (st:=i9) l20 c20 k20;have b20:=F20.binds (ps:=["_law_many","_law_rows_here"]) λ_ _ _ _ _ _ us hl=>by obtain⟨u0,u1,rfl⟩:=kG hl;rfl
 have F21:=bK (st:=iC) l21 c21 k21;have b21:=F21.binds (ps:=["_law_kind_here","_law_x"]) λ_ _ _ _ _ _ us hl=>by obtain⟨u0,u1,rfl⟩:=kG hl;rfl
 have F22:=bK (st:=jL) l22 c22 k22;have b22:=F22.binds (ps:=["_law_form_here","_law_many","_law_head","_law_tail"]) λ_ _ _ _ _ _ us hl=>by obtain⟨u0,u1,u2,u3,rfl⟩:=DJ hl;rfl
 have F23:=bK (st:=jh) l23 c23 k23;have b23:=F23.binds (ps:=["_law_form_here","_law_x","_law_many"]) λ_ _ _ _ _ _ us hl=>by obtain⟨u0,u1,u2,rfl⟩:=yX hl;rfl
 have F24:=bK (st:=i6) l24 c24 k24;have b24:=F24.binds (ps:=["_law_fields","_law_x"]) λ_ _ _ _ _ _ us hl=>by obtain⟨u0,u1,rfl⟩:=kG hl;rfl
 have F25:=bK (st:=iw) l25 c25 k25;have b25:=F25.binds (ps:=["_law_script","_law_k"]) λ_ _ _ _ _ _ us hl=>by obtain⟨u0,u1,rfl⟩:=kG hl;rfl
 have F26:=bK (st:=j5) l26 c26 k26;have b26:=F26.binds (ps:=["_law_script","_law_k"]) λ_ _ _ _ _ _ us hl=>by obtain⟨u0,u1,rfl⟩:=kG hl;rfl
 have F27:=bK (st:=il) l27 c27 k27;have b27:=F27.binds (ps:=["_law_many","_law_fields","_law_script"]) λ_ _ _ _ _ _ us hl=>by obtain⟨u0,u1,u2,rfl⟩:=yX hl;rfl
 have F28:=bK (st:=hJ) l28 c28 k28;have b28:=F28.binds (ps:=["_law_one","_law_other"]) λ_ _ _ _ _ _ us hl=>by obtain⟨u0,u1,rfl⟩:=kG hl;rfl
 have F29:=bK (st:=eY) l29 c29 k29;have b29:=F29.binds (ps:=["_law_one","_law_other"]) λ_ _ _ _ _ _ us hl=>by obtain⟨u0,u1,rfl⟩:=kG hl;rfl
 have F30:=bK (st:=dS) l30 c30 k30;have b30:=F30.binds (ps:=["_law_one","_law_other","_law_name_here","_law_script"]) λ_ _ _ _ _ _ us hl=>by obtain⟨u0,u1,u2,u3,rfl⟩:=DJ hl;rfl
 have F31:=bK (st:=kn) l31 c31 k31;have b31:=F31.binds (ps:=["_law_base","_law_k"]) λ_ _ _ _ _ _ us hl=>by obtain⟨u0,u1,rfl⟩:=kG hl;rfl
 have F32:=bK (st:=eh) l32 c32 k32;have b32:=F32.binds (ps:=["_law_one","_law_other","_law_script"]) λ_ _ _ _ _ _ us hl=>by obtain⟨u0,u1,u2,rfl⟩:=yX hl;rfl
 have F33:=bK (st:=jy) l33 c33 k33;have b33:=F33.binds (ps:=["_law_x"]) λ_ _ _ _ _ _ us hl=>by obtain⟨u0,rfl⟩:=yD hl;rfl
 have F34:=bK (st:=jj) l34 c34 k34;have b34:=F34.binds (ps:=["_law_x","_law_base","_law_deep"]) λ_ _ _ _ _ _ us hl=>by obtain⟨u0,u1,u2,rfl⟩:=yX hl;rfl
 have F35:=bK (st:=ji) l35 c35 k35;have b35:=F35.binds (ps:=["_law_x","_law_base","_law_start","_law_many","_law_more","_law_deep"]) λ_ _ _ _ _ _ us hl=>by obtain⟨u0,u1,u2,u3,u4,u5,rfl⟩:=Mi hl;rfl
 have F36:=bK (st:=fW) l36 c36 k36;have b36:=F36.binds (ps:=["_law_x"]) λ_ _ _ _ _ _ us hl=>by obtain⟨u0,rfl⟩:=yD hl;rfl
 have F37:=bK (st:=gx) l37 c37 k37;have b37:=F37.binds (ps:=["_law_x"]) λ_ _ _ _ _ _ us hl=>by obtain⟨u0,rfl⟩:=yD hl;rfl
 have F38:=bK (st:=gK) l38 c38 k38;have b38:=F38.binds (ps:=["_law_x","_law_base","_law_many"]) λ_ _ _ _ _ _ us hl=>by obtain⟨u0,u1,u2,rfl⟩:=yX hl;rfl
 have F39:=bK (st:=dU) l39 c39 k39;have b39:=F39.binds (ps:=["_law_script"]) λ_ _ _ _ _ _ us hl=>by obtain⟨u0,rfl⟩:=yD hl;rfl
 have F40:=bK (st:=eF) l40 c40 k40;have b40:=F40.binds (ps:=["_law_one","_law_other","_law_script"]) λ_ _ _ _ _ _ us hl=>by obtain⟨u0,u1,u2,rfl⟩:=yX hl;rfl
 have F41:=bK (st:=eE) l41 c41 k41;have b41:=F41.binds (ps:=["_law_script"]) λ_ _ _ _ _ _ us hl=>by obtain⟨u0,rfl⟩:=yD hl;rfl
 have F42:=bK (st:=tG) l42 c42 k42;have F43:=bK (st:=fK) l43 c43 k43;have b43:=F43.binds (ps:=["self","name"]) λ_ _ _ _ _ _ us hl=>by obtain⟨u0,u1,rfl⟩:=kG hl;rfl
 have cl0:Bz K Cl0:=⟨p0,q0,r0,s0⟩
 have cl1:Bz K Cl1:=⟨p1,q1,r1,s1⟩
 have cl2:Bz K Cl2:=⟨p2,q2,r2,s2⟩
 have lC:vK K f2 (.ref cL):=⟨_,_,_,_,l2,lc⟩
 refine⟨⟨cL,lh⟩,lt,Ru "law" "law" (nS tG) (gr tG) (aA tG) .none kV42 dc42 pm42 an42 cd42 ct42,λs v=>.of_eq rfl,λbase kb _ bm=>?_⟩;have N_Join:A0 K mg "Join":=⟨_,ac1,⟨m1,o1,kp1⟩,RF X G ac1⟩
 have tY:=yR (P:=l.prog) (w:=w) (base:=base) ac2 ⟨m2,a43,i43,kp2⟩ cl2 (by intro g hg;simp only[Qg,QX,or_false]at hg;rcases hg with rfl;exact n2_0) F43 b43 (RF X G ac2);have fam:=nD (P:=l.prog) (w:=w) (base:=base) F0 b0 (RF X G a0) aP ja jm gX aH bA fV 12;have cY:=fam;have okb_Pair_put:=xQ (P:=l.prog) (w:=w) (base:=base) (K:=K) (mg:=mg) (f:=f1);have gY:=Ao F2 b2 (RF X G a2) wu (Fd.ok (xl (P:=l.prog) (w:=w) (base:=base) (f:=f2) aH dM (GY kb lh bm) lC λ_ z=>z));have ig:=aY F3 b3 (RF X G a3) BD (cJ.ok (CJ (P:=l.prog) (w:=w) (base:=base) (f:=f3) zB));have gV:=aY F4 b4 (RF X G a4) zc (cJ.ok (zf (P:=l.prog) (w:=w) (base:=base) (f:=f4) ig gY fE));have okb_Join_put:=yG (P:=l.prog) (w:=w) (base:=base) (K:=K) (mg:=mg) (f:=f5) ig gV bA;have eA:=aY F6 b6 (RF X G a6) zj (cJ.ok (x9 (P:=l.prog) (w:=w) (base:=base) (f:=f6) aP gX jm));have dJ:=aY F7 b7 (RF X G a7) xh (cJ.ok (xH (P:=l.prog) (w:=w) (base:=base) (f:=f7) aP aH bA));have dL:=aY F8 b8 (RF X G a8) xG (cJ.ok (xL (P:=l.prog) (w:=w) (base:=base) (f:=f8) kr bX bA));have eB:=aY F9 b9 (RF X G a9) zb (cJ.ok (yU (P:=l.prog) (w:=w) (base:=base) (f:=f9) aH));have fam:=y6 (P:=l.prog) (w:=w) (base:=base) F10 b10 (RF X G a10) F11 b11 (RF X G a11) F12 b12 (RF X G a12) eA eB dL dJ aP ja bA aH kr fV 12;have xD:=fam.1;have sA:=fam.2.1;have jP:=fam.2.2;have lT:=aY F13 b13 (RF X G a13) uJ (cJ.ok (uU (P:=l.prog) (w:=w) (base:=base) (f:=f13) aH));have jN:=aY F14 b14 (RF X G a14) rX (cJ.ok (rV (P:=l.prog) (w:=w) (base:=base) (f:=f14) iu mF));have wW:=aY F15 b15 (RF X G a15) Gf (cJ.ok (GH (P:=l.prog) (w:=w) (base:=base) (f:=f15) jN lT));have lN:=aY F16 b16 (RF X G a16) uL (cJ.ok (uK (P:=l.prog) (w:=w) (base:=base) (f:=f16) wW fV aH));have j6:=aY F17 b17 (RF X G a17) wO (cJ.ok (xF (P:=l.prog) (w:=w) (base:=base) (f:=f17) lN jP bA));have okb_Gather_put:=uZ (P:=l.prog) (w:=w) (base:=base) (K:=K) (mg:=mg) (f:=f18) gV j6 ig gY bA fE;have aE:=aY F19 b19 (RF X G a19) xM (cJ.ok (xJ (P:=l.prog) (w:=w) (base:=base) (f:=f19) ));have cp:=aY F20 b20 (RF X G a20) ud (cJ.ok (ue (P:=l.prog) (w:=w) (base:=base) (f:=f20) aH dM fE));have fam:=ng (P:=l.prog) (w:=w) (base:=base) F21 b21 (RF X G a21) F22 b22 (RF X G a22) F23 b23 (RF X G a23) aE cp bA iu gX aH bX 12;have ik:=fam.1;have gQ:=fam.2.1;have kc:=fam.2.2;have fz:=aY F24 b24 (RF X G a24) tN (cJ.ok (sX (P:=l.prog) (w:=w) (base:=base) (f:=f24) gQ aH));have cm:=aY F25 b25 (RF X G a25) rR (cJ.ok (rQ (P:=l.prog) (w:=w) (base:=base) (f:=f25) bA));have cy:=aY F26 b26 (RF X G a26) wo (cJ.ok (xg (P:=l.prog) (w:=w) (base:=base) (f:=f26) cm aE));have eL:=aY F27 b27 (RF X G a27) rM (cJ.ok (rL (P:=l.prog) (w:=w) (base:=base) (f:=f27) fz cy cp bX mF iu bA));have jT:=aY F28 b28 (RF X G a28) rN (cJ.ok (rS (P:=l.prog) (w:=w) (base:=base) (f:=f28) mF iu aH));have cV:=aY F29 b29 (RF X G a29) oF (cJ.ok (oH (P:=l.prog) (w:=w) (base:=base) (f:=f29) jT fV aH));have eQ:oM l.prog w K mg base 15 "put" ["self","forms","tables","view"] [("Pair",(aN bG 4 4)),("Join",(aN bf 4 10)),("Gather",(aN aR 4 9))]:=kU (MethAt.mono (jG (c:="Pair") (m:="put") ac0 cl0 ⟨a1,i1,k1⟩ F1 b1 ro (cJ.ok okb_Pair_put)) (by decide)) aK (kU (MethAt.mono (jG (c:="Join") (m:="put") ac1 cl1 ⟨a5,i5,k5⟩ F5 b5 rh (cJ.ok okb_Join_put)) (by decide)) aK (kU (MethAt.mono (jG (c:="Gather") (m:="put") ac2 cl2 ⟨a18,i18,k18⟩ F18 b18 oO (cJ.ok okb_Gather_put)) (by decide)) aK (A8)));have fA:=aY F30 b30 (RF X G a30) mC (cJ.ok (lQ (P:=l.prog) (w:=w) (base:=base) (f:=f30) cV eL cy aE fz cY eQ tY bA dM fE aH));have ca:=aY F31 b31 (RF X G a31) xI (cJ.ok (wG (P:=l.prog) (w:=w) (base:=base) (f:=f31) bX));have gg:=aY F32 b32 (RF X G a32) mL (cJ.ok (mI (P:=l.prog) (w:=w) (base:=base) (f:=f32) aE cy cm ca bA));have dG:=aY F33 b33 (RF X G a33) uO (cJ.ok (uN (P:=l.prog) (w:=w) (base:=base) (f:=f33) bX bA aH dM fE));have fam:=oR (P:=l.prog) (w:=w) (base:=base) F34 b34 (RF X G a34) F35 b35 (RF X G a35) dG aE ca bX aH 12;have nF:=fam.1;have dj:=fam.2;have iq:=aY F36 b36 (RF X G a36) oX (cJ.ok (o7 (P:=l.prog) (w:=w) (base:=base) (f:=f36) dM fE));have iP:=aY F37 b37 (RF X G a37) pT (cJ.ok (pD (P:=l.prog) (w:=w) (base:=base) (f:=f37) aE iq bA aH j9));have dW:=aY F38 b38 (RF X G a38) qj (cJ.ok (qE (P:=l.prog) (w:=w) (base:=base) (f:=f38) aE iP ca bX aH));have fF:=aY F39 b39 (RF X G a39) lR (cJ.ok (lL (P:=l.prog) (w:=w) (base:=base) (f:=f39) cy cm dW aE dj mF));have fh:oM l.prog w K mg base 15 "put" ["self","forms","tables","view"] [("Pair",(aN bG 4 4)),("Join",(aN bf 4 10)),("Gather",(aN aR 4 9))]:=kU (MethAt.mono (jG (c:="Pair") (m:="put") ac0 cl0 ⟨a1,i1,k1⟩ F1 b1 ro (cJ.ok okb_Pair_put)) (by decide)) aK (kU (MethAt.mono (jG (c:="Join") (m:="put") ac1 cl1 ⟨a5,i5,k5⟩ F5 b5 rh (cJ.ok okb_Join_put)) (by decide)) aK (kU (MethAt.mono (jG (c:="Gather") (m:="put") ac2 cl2 ⟨a18,i18,k18⟩ F18 b18 oO (cJ.ok okb_Gather_put)) (by decide)) aK (A8)));have gA:=aY F40 b40 (RF X G a40) ny (cJ.ok (nA (P:=l.prog) (w:=w) (base:=base) (f:=f40) eL cV cY fh N_Join bA aH));have gB:=aY F41 b41 (RF X G a41) mV (cJ.ok (nB (P:=l.prog) (w:=w) (base:=base) (f:=f41) cy cm dW aE dj));exact Jq (P:=l.prog) (w:=w) (base:=base) F42 gB gA fF fA gg
def walk{l:RC}{q:Sg}{loose:List Str}{XP:(Str->Option Se)->Sl->Prop}{YP:Sf->Sl->Prop}{d:DefRec}{K:Params->Q7}{T:Si}(hn:l.most=some 63)(hdf:d.params.defaults=[])
  (hY:∀(w:Sf)(h:Sl),YP w h->(K w.params).In h/\h.get? T=some (RA #[]))
  (F:∀ (w:Sf) (mg:Str->Option Se) (fa:Si) (h:Sl),(K w.params).In h->h.Ns Sr mg->mg d.name=some (.ref fa) ->
   (∃c,RE (K w.params) c T=true)/\(K w.params).lookup T=none/\∃fd:S7,(∀(s:Sw)(u:Se),S8 s fd ⟨[u],[]⟩ [("_law_script",u)])/\∀base:Sl,(K w.params).In base->base.Ns Sr mg->zP mg base->jV l.prog w (K w.params) mg base (oN l.prog w) 17 fa fd ["_law_script"] (@C2 (xn T ⟨53,34,53,56⟩ ((("sorted_by":Str)++".<locals>.")++"<lambda>")) (K w.params) 1 (aN sO 1 3)))
  (math:∀ns:List Int,ns.length<=63->aN sO 1 3 [.lst (ns.map .int)]=.ok (.bl true)):PySem.W.WalkO q loose XP YP l.row.toRowW d [] (λf vs=>PySem.call f vs):=
 Ey (n:=63) (k:=17) (x:="_law_script") (T:=T) (CX:=λw=>oN l.prog w) (sp:=λw=>@C2 (xn T ⟨53,34,53,56⟩ ((("sorted_by":Str)++".<locals>.")++"<lambda>")) (K w.params) 1 (aN sO 1 3)) hn (by decide) hdf ⟨rfl,by decide,by decide⟩ hY F
  (λw H a ns hl hT hS=>⟨[],[.lst (ns.map .int)],rfl,⟨hT,λa h=>nomatch h⟩,by rw[Fo];exact bP.mpr ⟨.ref a,[],rfl,cX.mpr ⟨a,_,rfl,hS,wf ns⟩,dA.mpr rfl⟩,by rw[math ns hl];exact λv H' sm d=>⟨lM.mp d,sm⟩⟩) λ_ _ _ _ _ z=>by obtain⟨_,_,_,_,_,_,_,_,_,_,_,_,_,z⟩:=z;exact z
end Tk57
namespace Tk57
open PySem PySem.Spec L2 TG TD T4
local macro_rules|`(‹$x›)=>do if x.raw.isOfKind `num then Lean.Macro.throwUnsupported else `(some (S.val $x))
local macro_rules
 |`(tactic| simp! only[$xs,*])=>`(tactic| simp only[fj,v7,sM,vo,mD,iZ,ge_0,B8,qQ,Cz,qo,oB,qZ,qm,Cw,BI,B6,BQ,BJ,qA,qf,vY,kN,ox,qB,oj,wa,rg,qy,ou,qS,lw,qP,lE,kR,jD,jC,qU,nO,jH,n5,kZ,oA,oz,js,nX,lI,oT,ow,lJ,jY,oo,nK,CA,vU,BR,BH,CM,rd,n6,qO,nM,oy,Bx,CW,QR,QS,OZ,Pt,PJ,P5,K0,env0,List.replicate,Qs,O5,Qn,Nat.reduceAdd,Nat.reduceSub,OY,Px,qp,qT,vy,qI,ra,qC,jE,qW,vM,vg,vN,qu,lB,kJ,lH,lg,lF,lD,pY,vh,vQ,vi,vS,vA,lm,kM,iS,iY,qt,jF,iN,iU,iO,my,mr,iI,iE,lG,lr,nR,oC,la,oE,qK,qH,nW,nV,gN,if_true,if_false,QT,QU,PF,$xs,*])
def gm(j:Int)(h:0<j:=by decide):∀i:Int,cB (.int i) (.int j)=some (.int (i%j)):=λi=>gb (i:=i) h
def gd(j:Int)(h:0<j:=by decide)(h':j<10^200:=by decide):∀i:Int,dg (.int i) (.int j)=some (.int (i/j)):=λi=>mU (i:=i) h h'
inductive Kd where
 |num (lo hi:Int)|wrd (ws:List Str)
def Kd.d:Kd->D
 |.num lo hi=>.tup [.str "number",.int lo,.int hi]
 |.wrd ws=>.tup [.str "word",.tup (ws.map .str)]
def Kd.gd:Kd->Prop
 |.num lo hi=>lo<=hi
 |.wrd ws=>ws≠[]/\ws.length<=100
def Kd.b:Kd->Bool
 |.num _ _=>true
 |.wrd _=>false
abbrev KL:=List (Str×Kd)
def kf(p:Str×Kd):D:=.tup [.str p.1,p.2.d]
abbrev fr(k:KL)(r:List (Str×D)):D:=.tup [.tup (k.map kf),.tup (r.map fld)]
def toD(p:Str×Kd):Str×D:=(p.1,p.2.d)
def xB(k:KL):k.map kf=(k.map toD).map fld:=by rw[QE];rfl
def wx:(("number":Str)==("number":Str))=true:=by decide +kernel
def wR:(("word":Str)==("word":Str))=true:=by decide +kernel
def xc:(("word":Str)==("number":Str))=false:=by decide +kernel
def HS:(("rows":Str)==("number":Str))=false:=by decide +kernel
def G4:(("rows":Str)==("word":Str))=false:=by decide +kernel
def KG:Nat->D->Prop
 |0,d=>∃c:Kd,c.gd/\d=c.d
 |n+1,d=>(∃c:Kd,c.gd/\d=c.d)\/∃(ks:KL)(qs:List (Str×D))(b:Bool),d=.tup [.str "rows",fr ks qs,.bl b]/\1<=ks.length/\ks.length<=8/\(∀p∈ks,p.2.gd)/\qs.length<=8/\∀q∈qs,KG n q.2
def GB(ws:List Str)(w:Str):qV ws w≠[]:=by
 unfold qV;split
 ·rename_i h;intro z;rw[z]at h;simp at h
 ·simp
def HF(ws:List Str)(h:ws.Nodup)(hl:ws.length<64):∃us:List Str,eU [.lst (ws.map .str)]=some (.lst (us.map .str))/\us.Perm ws:=by
 have pz:∀zs:List D,zs.Perm (ws.map D.str)->∃us:List Str,zs=us.map .str/\us.Perm ws:=λzs p=>by
  have e:zs=(zs.map λz=>match z with|.str w=>w|_=>"").map .str:=by
   rw[QE]
   conv=>lhs;rw[<-List.map_id zs]
   refine P6 λz hz=>?_;obtain⟨w,_,rfl⟩:=List.mem_map.mp (p.mem_iff.mp hz);rfl
  refine⟨_,e,?_⟩;have q:=p.map λz:D=>match z with|.str w=>w|_=>("":Str)
  rw[QE]at q;have e2:ws.map ((λz:D=>match z with|.str w=>w|_=>("":Str))∘D.str)=ws:=by
   conv=>rhs;rw[<-List.map_id ws]
   exact P6 λ_ _=>rfl
  rw[e2]at q;exact q
 have fin:∀key:D->List D,∃us:List Str,some (D.lst (jq key (ws.map .str)))=some (.lst (us.map .str))/\us.Perm ws:=λkey=>by
  obtain⟨us,e,q⟩:=pz _ (gU key (ws.map .str));exact⟨us,by rw[e],q⟩
 show∃us,rH (ws.map .str)=_/\_;unfold rH;by_cases a:HK (ws.map .str)
 ·rw[if_pos a];exact fin _
 ·have b:Ke (ws.map .str):=by
   refine⟨by rw[O0];exact hl,false,λx hx=>?_,?_⟩
   ·obtain⟨w,_,rfl⟩:=List.mem_map.mp hx;exact .str w .nil
   ·rw[QC];refine h.imp λhne e=>hne ?_;have e:[D.str _]=[D.str _]:=e;injection e with e _;injection e
  rw[if_neg a,if_pos b];exact fin _
def ua(x:Int)(h0:0<=x)(h1:x<2147483700):∃c:Kd,aN dF 1 8 [.int x]=.ok c.d/\c.gd:=by
 have g3:=gm 3;have g4:=gm 4;have g26:=gm 26;have d3:=gd 3;have d12:=gd 12;have d78:=gd 78;have d2028:=gd 2028;have p7:lj (.int x) (.int 7)=some (.int (x^7)):=xq x 7 (by decide) ‹0›;have pb:=Hj;have gp:=λi=>gb (i:=i) (show(0:Int)<Cv by omega);rw[mQ];unfold dF;by_cases h:x%3<2
 ·have h':decide (x%3<2)=true:=decide_eq_true h;obtain⟨v,hv,e1⟩:=Ou (.int 0) (.int (-3)) (.int (0-x^7%Cv)) (.int (x^7%Cv)) (x/3%4) ‹0› ‹0›;obtain⟨lo,rfl⟩:∃lo:Int,v=.int lo:=by
   simp only[Qg,QX,or_false]at hv;rcases hv with rfl|rfl|rfl|rfl<;>exact⟨_,rfl⟩
  obtain⟨w,w0,e2⟩:∃w:Int,0<=w/\aD (.lst [.int 0,.int 1,.int 6,.int Cv]) (.int (x/12%4))=some (.int w):=by
   rcases(show x/12%4=0\/x/12%4=1\/x/12%4=2\/x/12%4=3 by omega)with z|z|z|z<;>rw[z]
   ·exact⟨0,by decide,rfl⟩
   ·exact⟨1,by decide,rfl⟩
   ·exact⟨6,by decide,rfl⟩
   ·exact⟨Cv,by omega,rfl⟩
  refine⟨.num lo (lo+w),?_,by show lo<=lo+w;omega⟩;unfold Kd.d;simp! only[g3,h',p7,zS,gp,Jh,d3,g4,e1,d12,e2,Jx]
 ·have h':decide (x%3<2)=false:=decide_eq_false h;have LL:(("abcdefghijklmnopqrstuvwxyz":Str)).length=26:=by decide +kernel
  have L0:(("":Str)).length<=1000:=by decide +kernel
  generalize hL:("abcdefghijklmnopqrstuvwxyz":Str)=L at LL;obtain⟨one,ho,e1⟩:=sr L ‹0› (x/3%26) ‹0› ‹0›;obtain⟨oth,hq,e2⟩:=sr L ‹0› (x/78%26) ‹0› ‹0›;have a1:=jb one oth ‹0› ‹0›;have a2:=jb oth one ‹0› ‹0›;have a3:=jb one one ‹0› ‹0›;have m1:=DS (x:=one) (n:=8) (by decide) (by decide) ‹0›;have m2:=DS (x:=oth) (n:=3) (by decide) (by decide) ‹0›;have r8:om [.int 8]=some (gS 0 8):=lx 8 (by decide);generalize hW:[D.str "",.str one,.str oth,.str (one++oth),.str (oth++one),.str (lu one 8),.str (one++one),.str (lu oth 3)]=W;have W8:W.length=8:=by rw[<-hW];rfl
  have Ws:∀d∈W,∃w:Str,d=.str w:=by
   rw[<-hW];intro d hd;simp only[Qg,QX,or_false]at hd;rcases hd with rfl|rfl|rfl|rfl|rfl|rfl|rfl|rfl<;>exact⟨_,rfl⟩
  obtain⟨T,hT⟩:∃T:cK,T=(aG (ku (iB (af (fC (.int 8)) (aq))) (gN 7) (aG (lK (fB (f2 kH (f2 tX (f2 zO (f2 dg (ah 0) (fC (.int 2028))) (ah 7)) (fC (.int 1))) (fC (.int 1)))) (oK 6 (f2 aD (ah 5) (ah 7)) (fC (.bl true))) (cU)) (eD [7] cU))) (aG (lK (nH [6] (fB (f2 kH (fL we (af (ah 6) (aq))) (fC (.int 0))))) (oK 6 (ah 3) (fC (.bl true))) (cU)) (fY 6 (bL (aL (af (fC (.str "word")) (af (fL cu (af (fL eU (af (fL mR (af (ah 6) (aq))) (aq))) (aq))) (aq)))))))):=⟨_,rfl⟩
  have fin:∀ws:List Str,ws.Nodup->ws.length<=10->ws≠[]->∃c:Kd,fY 6 (bL (aL (af (fC (.str "word")) (af (fL cu (af (fL eU (af (fL mR (af (ah 6) (aq))) (aq))) (aq))) (aq))))) K0 [‹.int x›,none,none,‹.str one›,none,‹.lst W›,some (.own (wd ws)),none]=.ok c.d/\c.gd:=λws nd hl wn=>by
   obtain⟨us,ez,pz⟩:=HF ws nd ‹0›;refine⟨.wrd us,?_,⟨λz=>wn (by rw[z]at pz;exact pz.symm.eq_nil),by rw[pz.length_eq];omega⟩⟩;unfold Kd.d;simp! only[yK,ez,qb]
  have key:∃c:Kd,T K0 [‹.int x›,none,none,‹.str one›,none,‹.lst W›,some (.own (.dct [] [])),none]=.ok c.d/\c.gd:=by
   rw[hT,js,jY];simp! only[r8];refine fS (Q:=λz=>∃c:Kd,z=.ok c.d/\c.gd) (λi ρ=>∃ws:List Str,ws.Nodup/\ws.length<=i/\ρ=[‹.int x›,none,none,‹.str one›,none,‹.lst W›,some (.own (wd ws)),none]) ?_ ⟨[],PB,OT _,rfl⟩ ?_
   ·rintro i d ρ kk hd ⟨ws,nd,hl,rfl⟩;have hi:=cW hd;rw[dy]at hi;have hdi:d=.int (i:Int):=by
     rw[kQ,Ph,Qa hi]at hd;cases hd;simp
    subst hdi;obtain⟨w,ew⟩:=Ws (W[i]'‹0›) (QB _);have ix:aD (.lst W) (.int (i:Int))=some (.str w):=by
     rw[Ja,tH ‹0›,ew]
    have sh:=Ek (x/2028) i;cases hb:(Builtin.bitAnd (x/2028/2^i) 1==1)with
    |false=>
     refine⟨_,_,rfl,⟨ws,nd,by omega,rfl⟩,?_⟩;simp! only[d2028,sh,xi,hb]
    |true=>
     refine⟨_,_,rfl,⟨qV ws w,wF w nd,by have:=tS ws w;omega,rfl⟩,?_⟩;have pk:=λk:Ks=>wB (i:=6) (fk:=f2 aD (ah 5) (ah 7)) (fv:=fC (.bl true)) (k:=k) (ρ:=[‹.int x›,none,none,‹.str one›,none,‹.lst W›,some (.own (wd ws)),‹.int (i:Int)›]) (al:=AO ws) (q:=.inr w) (d:=.str w) (v:=.bl true) rfl (by simp! only[ix]) rfl rfl (by simp;omega);simp! only[d2028,sh,xi,hb,pk,zD]
   ·rintro ρ' ⟨ws,nd,hl,rfl⟩;rw[dy]at hl;have pt:nH [6] (fB (f2 kH (fL we (af (ah 6) (aq))) (fC (.int 0)))) [‹.int x›,none,none,‹.str one›,none,‹.lst W›,some (.own (wd ws)),none]=.ok (((ws.length:Int))==0):=by
     simp! only[t9,HJ,GO]
    dsimp only;rw[js,oT,pt,sM];cases hb:((ws.length:Int)==0)with
    |false=>exact fin ws nd ‹0› λz=>by rw[z]at hb;cases hb
    |true=>
     have pk:=λk:Ks=>wB (i:=6) (fk:=ah 3) (fv:=fC (.bl true)) (k:=k) (ρ:=[‹.int x›,none,none,‹.str one›,none,‹.lst W›,some (.own (wd ws)),none]) (al:=AO ws) (q:=.inr one) (d:=.str one) (v:=.bl true) rfl rfl rfl rfl (by simp;omega);rw[if_pos rfl,pk,zD];exact fin (qV ws one) (wF one nd) (by have:=tS ws one;omega) (GB ws one)
  obtain⟨d,ed,fd⟩:=key;have mW:nc W=some (.lst W):=Ee ‹0›;refine⟨d,?_,fd⟩;rw[<-hT];simp only[K0]at ed;simp! only[hL,g3,h',d3,g26,e1,d78,e2,a1,a2,a3,m1,m2,hW,mW,sg,ed]
def Ax{b st:Int}{L:List Str}{nm:Str}(h:∀(j:Nat)(w:Str),L[j]?=some w->yQ b (st+(j:Int)) w)(hn:yQ b (st+(L.length:Int)) nm):∀(j:Nat)(w:Str),(L++[nm])[j]?=some w->yQ b (st+(j:Int)) w:=λj w e=>by
 rw[List.getElem?_append]at e;split at e
 ·exact h j w e
 ·rename_i hj
  have:j-L.length=0:=by
   have:=cW e
   simp at this;omega
  rw[this]at e;cases e;rw[show j=L.length by omega];exact hn
def Az(dp g:Nat)(hk:∀x b:Int,0<=x->x<2147483700->0<=b->∃d,bu g [.int x,.int b,.int dp]=.ok d/\KG dp d)(x b st:Int)(m r:Nat)(h0:0<=x)(h1:x<2147483700)(hb:0<=b)(hs:0<=st)(hm:m<=8)(hr:r<=8):
  ∃(ks:KL)(qs:List (Str×D)),aS (g+1) [.int x,.int b,.int st,.int m,.int r,.int dp]=.ok (fr ks qs)/\ks.length=m/\qs.length=r/\(∀p∈ks,p.2.gd)/\(∀q∈qs,KG dp q.2)/\∀(j:Nat)(w:Str),(ks.map (·.1)++qs.map (·.1))[j]?=some w->yQ b (st+(j:Int)) w:=by
 rw[iF,HM];unfold j8;have rn:om [.int ((m:Int)+(r:Int))]=some (gS 0 (m+r)):=by
  rw[show((m:Int)+(r:Int))=((m+r:Nat):Int)by omega];exact lx (m+r) ‹0›
 obtain⟨T,hT⟩:∃T:cK,T=fY 7 (fY 6 (bL (aL (af (fL cu (af (ah 6) (aq))) (af (fL cu (af (ah 7) (aq))) (aq)))))):=⟨_,rfl⟩
 rw[<-hT];simp! only[Ik,rn];refine fS (Q:=λz=>∃(ks:KL)(qs:List (Str×D)),z=.ok (fr ks qs)/\ks.length=m/\qs.length=r/\(∀p∈ks,p.2.gd)/\(∀q∈qs,KG dp q.2)/\∀(j:Nat)(w:Str),(ks.map (·.1)++qs.map (·.1))[j]?=some w->yQ b (st+(j:Int)) w)
  (fun i ρ=>∃ (y:Int) (ks:KL) (qs:List (Str×D)),0<=y/\y < 2147483700/\ks.length=min i m/\qs.length=i - m/\(∀ p∈ks,p.2.gd)/\(∀ q∈qs,KG dp q.2)/\(∀ (j:Nat) (w:Str),(ks.map (·.1)++qs.map (·.1))[j]?=some w->yQ b (st+(j:Int)) w) /\
   ρ=[‹.int y›,‹.int b›,‹.int st›,‹.int m›,‹.int r›,‹.int dp›,some (.own (.lst (ks.map kf))),some (.own (.lst (qs.map fld))),none]) ?_ ⟨x,[],[],h0,h1,by simp,by simp,(λ_ h=>nomatch h),(λ_ h=>nomatch h),(λj w h=>by simp at h),rfl⟩ ?_
 ·rintro i d ρ kk hd ⟨y,ps,qs,y0,y1,lp,lq,fp,fq,fn,rfl⟩;have hi:=cW hd;rw[dy]at hi;have hdi:d=.int (i:Int):=by
   rw[kQ,Ph,Qa hi]at hd;cases hd;simp
  subst hdi;obtain⟨y',y0',y1',ey⟩:=gI y y0 y1;obtain⟨nm,en,nP⟩:=sI b (st+(i:Int)) hb ‹0›;by_cases h:i<m
  ·have h':decide ((i:Int)<(m:Int))=true:=decide_eq_true ‹0›;obtain⟨c,ek,ck⟩:=ua y' y0' ‹0›;refine⟨_,_,rfl,⟨y',ps++[(nm,c)],qs,y0',by omega,by rw[Pk,Pq];omega,by omega,λp hp=>?_,fq,?_,rfl⟩,?_⟩
   ·rcases List.mem_append.mp hp with z|z
    ·exact fp p z
    ·rw[QK]at z;subst z;exact ck
   ·have q0:qs=[]:=List.length_eq_zero_iff.mp ‹0›;subst q0;rw[Pt,O5]at fn ⊢;rw[P7];exact Ax fn (by rw[O0,lp,QM ‹0›];exact nP)
   ·have ap:gh (ps.map kf) [.tup [.str nm,c.d]]=some ((ps++[(nm,c)]).map kf):=by
     rw[ky (by rw[O0];omega),P7];rfl
    have sm:=λK:Ks=>kD 6 gh (af (aL (af (fR (aN bU 2 7) (af (ah 1) (af (f2 bS (ah 2) (ah 8)) (aq)))) (af (fR (aN dF 1 8) (af (ah 0) (aq))) (aq)))) (aq)) K [‹.int y'›,‹.int b›,‹.int st›,‹.int m›,‹.int r›,‹.int dp›,some (.own (.lst (ps.map kf))),some (.own (.lst (qs.map fld))),‹.int i›] (xs:=ps.map kf) rfl;generalize (ps++[(nm,c)]).map kf=Y at ap ⊢;simp! only[ey,h',sm,en,ek,qb,ap]
  ·have h':decide ((i:Int)<(m:Int))=false:=decide_eq_false ‹0›;obtain⟨k,ek,fk⟩:=hk y' b y0' ‹0› hb;refine⟨_,_,rfl,⟨y',ps,qs++[(nm,k)],y0',by omega,by omega,by rw[Pk,Pq];omega,fp,λp hp=>?_,?_,rfl⟩,?_⟩
   ·rcases List.mem_append.mp hp with z|z
    ·exact fq p z
    ·rw[QK]at z;subst z;exact fk
   ·rw[P7,<-Qd];exact Ax fn (by rw[Pk,O0,O0,lp,lq,show min i m+(i-m)=i by omega];exact nP)
   ·have ap:gh (qs.map fld) [.tup [.str nm,k]]=some ((qs++[(nm,k)]).map fld):=by
     rw[ky (by rw[O0];omega),P7];rfl
    have sm:=λK:Ks=>kD 7 gh (af (aL (af (fR (aN bU 2 7) (af (ah 1) (af (f2 bS (ah 2) (ah 8)) (aq)))) (af (fR (bu g) (af (ah 0) (af (ah 1) (af (ah 5) (aq))))) (aq)))) (aq)) K [‹.int y'›,‹.int b›,‹.int st›,‹.int m›,‹.int r›,‹.int dp›,some (.own (.lst (ps.map kf))),some (.own (.lst (qs.map fld))),‹.int i›] (xs:=qs.map fld) rfl;generalize (qs++[(nm,k)]).map fld=Y at ap ⊢;simp! only[ey,h',sm,en,ek,qb,ap]
 ·rintro ρ' ⟨y,ps,qs,y0,y1,lp,lq,fp,fq,fn,rfl⟩;rw[dy]at lp lq;refine⟨ps,qs,?_,by omega,by omega,fp,fq,fn⟩;rw[hT];simp! only[qb]
def G1:∀(dp g:Nat),2*dp+1<=g->∀x b:Int,0<=x->x<2147483700->0<=b->∃d,bu g [.int x,.int b,.int dp]=.ok d/\KG dp d:=by
 intro dp
 induction dp with
 |zero=>
  intro g hg x b h0 h1 hb;obtain⟨g,rfl⟩:∃g',g=g'+1:=⟨g-1,by omega⟩
  have d3:=gd 3;obtain⟨c,e,f⟩:=ua (x/3) ‹0› ‹0›;refine⟨c.d,?_,c,f,rfl⟩;rw[gq,mq];unfold jc;have z:(((0:Nat):Int)==0)=true:=rfl;simp! only[z,d3,e]
 |succ dp ih=>
  intro g hg x b h0 h1 hb;obtain⟨g,rfl⟩:∃g',g=g'+1+1:=⟨g-2,by omega⟩
  have g2:=gm 2;have g3:=gm 3;have g12:=gm 12;have d3:=gd 3;have d6:=gd 6;have d18:=gd 18;have d36:=gd 36;have z:(((dp+1:Nat):Int)==0)=false:=by simp;omega
  rw[gq,mq];unfold jc;by_cases h:x%3<2
  ·have h':decide (x%3<2)=true:=decide_eq_true h;obtain⟨c,e,f⟩:=ua (x/3) ‹0› ‹0›;refine⟨c.d,?_,.inl ⟨c,f,rfl⟩⟩;simp! only[z,g3,h',d3,e]
  ·have h':decide (x%3<2)=false:=decide_eq_false h;obtain⟨m,hm,hm8,m1⟩:∃m:Nat,1+x/3%2=(m:Int)/\m<=8/\1<=m:=⟨(1+x/3%2).toNat,by omega,by omega,by omega⟩
   obtain⟨r,hr,hr8⟩:∃m:Nat,x/6%3=(m:Int)/\m<=8:=⟨(x/6%3).toNat,by omega,by omega⟩
   have hd:((dp+1:Nat):Int)-1=(dp:Int):=(by omega);obtain⟨ps,qs,e,l1,l2,F1,F2,_⟩:=Az dp g (ih g ‹0›) (x/3) b (x/36%12) m r ‹0› ‹0› hb ‹0› hm8 hr8;refine⟨.tup [.str "rows",fr ps qs,.bl (x/18%2==1)],?_,.inr ⟨ps,qs,_,rfl,by omega,by omega,F1,by omega,F2⟩⟩;simp! only[z,g3,h',d3,d36,g12,g2,d6,hm,hr,hd,e,d18,Jx]
def A5(dp:Nat)(hd:dp<=3)(x b st:Int)(m r:Nat)(h0:0<=x)(h1:x<2147483700)(hb:0<=b)(hs:0<=st)(hm:m<=8)(hr:r<=8):
  ∃(ks:KL)(qs:List (Str×D)),aS 12 [.int x,.int b,.int st,.int m,.int r,.int dp]=.ok (fr ks qs)/\ks.length=m/\qs.length=r/\(∀p∈ks,p.2.gd)/\(∀q∈qs,KG dp q.2)/\∀(j:Nat)(w:Str),(ks.map (·.1)++qs.map (·.1))[j]?=some w->yQ b (st+(j:Int)) w:=
 Az dp 11 (G1 dp 11 ‹0›) x b st m r h0 h1 hb hs hm hr
def Kd.has:Kd->D->Prop
 |.num lo hi,d=>∃i,d=.int i/\lo<=i/\i<=hi
 |.wrd ws,d=>∃w,d=.str w/\w∈ws
def qa:KL->List D->Prop
 |[],[]=>True
 |p::k,v::vs=>p.2.has v/\qa k vs
 |_,_=>False
def zI{c:Kd}{v:D}(h:c.has v){σ:List Bool}{vs:List D}(s:Sh σ vs):Sh (c.b::σ) (v::vs):=by
 cases c with
 |num lo hi=>obtain⟨i,rfl,_⟩:=h;exact .int i s
 |wrd ws=>obtain⟨w,rfl,_⟩:=h;exact .str w s
def qa.sh:∀{k:KL}{vs:List D},qa k vs->Sh (k.map (·.2.b)) vs
 |[],[],_=>.nil
 |_::_,_::_,h=>zI h.1 h.2.sh
def qa.app:∀{k:KL}{vs:List D}{k':KL}{vs':List D},qa k vs->qa k' vs'->qa (k++k') (vs++vs')
 |[],[],_,_,_,h=>h
 |_::_,_::_,_,_,a,h=>⟨a.1,a.2.app h⟩
def qa.length{k:KL}{vs:List D}(h:qa k vs):vs.length=k.length:=by
 rw[h.sh.length,O0]
def qa.take:∀{k k':KL}{vs:List D},qa (k++k') vs->qa k (vs.take k.length)
 |[],_,_,_=>trivial
 |_::_,_,_::_,h=>⟨h.1,h.2.take⟩
def vw{σ:List Bool}{kl:Nat}(h0:σ≠[])(hl:kl=σ.length)(rows:List (List D))(hs:∀r∈rows,Sh σ (r.take kl))(hn:rows.length<64):∃t:List (List D),aN cz 2 4 [.int kl,.lst (rows.map .tup)]=.ok (.tup (t.map .tup))/\Gc kl t/\(∀r∈t,r∈rows)/\t.length<=rows.length:=by
 obtain⟨T,hT⟩:∃T:cK,T=(fY 2 (bL (fL cu (af (gz [none,some 2] (bi (fL eU (af (fL lV (af (ah 2) (aq))) (aq)))) (gN 0) (cF) (f2 zv (ah 1) (ah 0))) (aq))))):=⟨_,rfl⟩
 rw[eW];unfold cz;rw[<-hT];simp! only[sg];refine fS (Q:=λz=>∃t:List (List D),z=.ok (.tup (t.map .tup))/\Gc kl t/\(∀r∈t,r∈rows)/\t.length<=rows.length) (λi ρ=>∃al:List (List Key×D),(al.map (·.1)).Nodup/\al.length<=i/\(∀p∈al,∃r∈rows,p.2=.tup r/\r.take kl=p.1.map bQ)/\ρ=[‹.int kl›,‹.lst (rows.map .tup)›,some (.own (fX al)),none]) ?_ ⟨[],PB,OT _,(λ_ h=>nomatch h),rfl⟩ ?_
 ·rintro i d ρ kk hd ⟨al,nd,ll,hp,rfl⟩;have hi:=cW hd;rw[O0]at hi;rw[Ph,PX hi]at hd;cases hd;have rm:rows[i]∈rows:=QB hi;obtain⟨q,eq⟩:=pI (hs _ rm);have ct:cutD rows[i] none (some (kl:Int))=q.map bQ:=by rw[jK,eq]
  refine⟨_,_,rfl,⟨iW al q (.tup rows[i]),AI _ _ nd,by have:=yS al q (.tup rows[i]);omega,λp h=>?_,rfl⟩,?_⟩
  ·rcases ym h with z|z
   ·exact hp p z
   ·subst z;exact⟨_,rm,rfl,eq⟩
  ·have pd:=λK:Ks=>Bd (i:=2) (fk:=bM (ah 3) (bz) (cC (ah 0))) (fv:=ah 3) (k:=K) (ρ:=[‹.int kl›,‹.lst (rows.map .tup)›,some (.own (fX al)),‹.tup rows[i]›]) (al:=al) (q:=q) (v:=.tup rows[i]) rfl (by simp! only[ct]) rfl ‹0›;generalize fX (iW al q (.tup rows[i]))=Y at pd ⊢;generalize fX al=Z at pd ⊢;simp! only[pd]
 ·rintro ρ' ⟨al,nd,ll,hp,rfl⟩;rw[O0]at ll;have hsk:∀p∈al,Sh σ (p.1.map bQ):=λp h=>by
   obtain⟨r,hr,_,e⟩:=hp p h;rw[<-e];exact hs r hr
  obtain⟨es,ri⟩:=AB nd hsk h0 ‹0›;have pm:=gU eN (encK al);have lt:=yd al;generalize jq eN (encK al)=W at es ri pm;have wl:W.length=al.length:=by rw[pm.length_eq,O0]
  have mem:∀x∈W,∃p∈al,x=.tup (p.1.map bQ):=λx hx=>by
   obtain⟨p,h1,h2⟩:=List.mem_map.mp (pm.mem_iff.mp hx);exact⟨p,h1,h2.symm⟩
  obtain⟨vs,v1,v2,v3⟩:=Dc (ρ:=[none,‹fX al›]) (g:=gN 0) (C:=cF) (Fe:=f2 zv (ah 1) (ah 0)) W (λi v=>∃r∈rows,v=.tup r/\W[i]?=some (.tup (r.take kl))) λi d hd=>by
   obtain⟨p,h1,h2⟩:=mem d (Pj hd);obtain⟨r,hr,e1,e2⟩:=hp p h1;have dx:=HH al p.1;rw[xP nd h1,e1]at dx;refine⟨[‹d›,‹fX al›],.tup r,rfl,rfl,?_,r,hr,rfl,by rw[hd,h2,e2]⟩;subst h2;generalize fX al=Z at dx;simp! only[dx]
  obtain⟨t,rfl⟩:=AW vs λv hv=>by
   obtain⟨i,hi,ei⟩:=P4 hv;obtain⟨r,_,e,_⟩:=v2 i v (by rw[PX hi,ei]);exact⟨r,e⟩
  rw[O0]at v1;have at_:∀(i:Nat)(h:i<t.length),t[i]∈rows/\W[i]?=some (.tup (t[i].take kl)):=λi h=>by
   obtain⟨r,hr,e,w⟩:=v2 i (.tup t[i]) (by rw[Ph,PX h];rfl);injection e with e;rw[e];exact⟨hr,w⟩
  refine⟨t,?_,?_,λr hr=>?_,by omega⟩
  ·have lc:gz [none,some 2] (bi (fL eU (af (fL lV (af (ah 2) (aq))) (aq)))) (gN 0) (cF) (f2 zv (ah 1) (ah 0)) [‹.int kl›,‹.lst (rows.map .tup)›,‹fX al›,none]=.ok (.lst (t.map .tup)):=by
    refine dR (ds:=W) ?_ ‹0› v3;generalize fX al=Z at lt;simp! only[lt,es]
   rw[hT];generalize fX al=Z at lc;simp! only[lc]
  ·refine List.pairwise_iff_getElem.mpr λi j hi hj hij=>?_;have a:=(at_ i hi).2;have b:=(at_ j hj).2;rw[PX ‹0›]at a b
   have:=List.pairwise_iff_getElem.mp ri i j ‹0› ‹0› hij
   rw[Option.some.inj a,Option.some.inj b]at this;exact this
  ·obtain⟨i,hi,ei⟩:=P4 hr;rw[<-ei];exact(at_ i hi).1
def uf(c:Kd)(hg:c.gd)(g:Nat)(x:Int)(h0:0<=x)(h1:x<2147483700):∃v,aI (g+1) [c.d,.int x]=.ok v/\c.has v:=by
 rw[fJ,eW];unfold ie;cases c with
 |num lo hi=>
  have hg:lo<=hi:=hg;have p7:lj (.int x) (.int 7)=some (.int (x^7)):=xq x 7 (by decide) ‹0›;have gm:=λi=>gb (i:=i) (show(0:Int)<hi-lo+1 by omega);have z1:=QV (x^7) (show hi-lo+1≠0 by omega);have z2:=QW (x^7) (show 0<hi-lo+1 by omega);refine⟨.int (lo+x^7%(hi-lo+1)),?_,_,rfl,by omega,by omega⟩;simp! only[Kd.d,wx,p7,gm]
 |wrd ws=>
  obtain⟨wn,_⟩:=(show ws≠[]/\ws.length<=100 from hg)
  have ul:0<ws.length:=List.length_pos_iff.mpr wn;have q1:=QV x (show(ws.length:Int)≠0 by omega);have q2:=QW x (show(0:Int)<(ws.length:Int)by omega);have gm:=λi=>gb (i:=i) (show(0:Int)<(ws.length:Int)by omega);have ix:aD (.tup (ws.map .str)) (.int (x%(ws.length:Int)))=some (.str (ws[(x%(ws.length:Int)).toNat]'‹0›)):=by
   rw[JP,sJ,p6 q1 q2];rfl
  refine⟨_,?_,ws[(x%(ws.length:Int)).toNat]'‹0›,rfl,QB _⟩;simp! only[Kd.d,xc,wR,O0,gm,ix]
def DN(n g:Nat)(hv:∀(d:D)(x:Int),KG n d->0<=x->x<2147483700->∃v,aI (g+1) [d,.int x]=.ok v/\AL (2*n) v)(ks:KL)(qs:List (Str×D))(k8:ks.length<=8)(q8:qs.length<=8)(hk:∀p∈ks,p.2.gd)(hq:∀q∈qs,KG n q.2)(A B:List D)(em:A++B=(ks.map toD++qs).map fld)(mn hd tl:Int)(h0:0<=hd)(h1:hd<2147483700)(t0:0<=tl)(t1:tl<2147483700):
  ∃vs:List D,aZ (g+2) [.tup [.tup A,.tup B],.int mn,.int hd,.int tl]=.ok (.tup vs)/\vs.length=ks.length+qs.length/\qa ks (vs.take ks.length)/\∀v∈vs,AL (2*n) v:=by
 rw[jl,tL];unfold lY;have fl:(ks.map toD++qs).length=ks.length+qs.length:=by rw[Pk,O0]
 have ad:=fe A B (by have:=congrArg List.length em;rw[Pk,O0]at this;omega);rw[em]at ad;obtain⟨T,hT⟩:∃T:cK,T=(fY 4 (bL (fL cu (af (ah 4) (aq))))):=⟨_,rfl⟩
 rw[<-hT];simp! only[Ik,ad];refine fS (Q:=λz=>∃vs:List D,z=.ok (.tup vs)/\vs.length=ks.length+qs.length/\qa ks (vs.take ks.length)/\∀v∈vs,AL (2*n) v)
  (λi ρ=>∃(y z:Int)(ka va:List D),0<=y/\y<2147483700/\0<=z/\z<2147483700/\qa (ks.take i) ka/\va.length=i-ks.length/\(∀v∈va,AL (2*n) v)/\ρ=[‹.tup [.tup A,.tup B]›,‹.int mn›,‹.int y›,‹.int z›,some (.own (.lst (ka++va))),none,none]) ?_ ⟨hd,tl,[],[],h0,h1,t0,t1,trivial,by simp,(λ_ h=>nomatch h),rfl⟩ ?_
 ·rintro i d ρ kk hd ⟨y,z,ka,va,y0,y1,z0,z1,hka,lva,hva,rfl⟩;have hi:=cW hd;rw[O0,fl]at hi;rw[Ph,PX ‹0›]at hd;cases hd;have kal:ka.length=min i ks.length:=by rw[hka.length,O8]
  obtain⟨y',y0',y1',ey⟩:=gI y y0 y1;obtain⟨z',z0',z1',ez⟩:=gI z z0 z1;have step:∀x:Int,0<=x->x<2147483700->∃v,aI (g+1) [((ks.map toD++qs)[i]'‹0›).2,.int x]=.ok v/\∃ka' va',ka++va++[v]=ka'++va'/\qa (ks.take (i+1)) ka'/\va'.length=i+1-ks.length/\∀v∈va',AL (2*n) v:=λx x0 x1=>by
   by_cases h:i<ks.length
   ·have e:(ks.map toD++qs)[i]'‹0›=toD ks[i]:=(by rw[List.getElem_append_left (by rw[O0];exact h),List.getElem_map]);obtain⟨v,ev,sv⟩:=uf ks[i].2 (hk _ (QB h)) g x x0 x1;have v0:va=[]:=List.length_eq_zero_iff.mp ‹0›;subst v0;refine⟨v,by rw[e];exact ev,ka++[v],[],by simp,?_,by simp;omega,λ_ h=>nomatch h⟩;rw[QY h];exact hka.app ⟨sv,trivial⟩
   ·have e:(ks.map toD++qs)[i]'‹0›=qs[i-ks.length]'‹0›:=(by rw[List.getElem_append_right (by rw[O0];omega)];simp);obtain⟨v,ev,sv⟩:=hv _ x (hq _ (QB (show i-ks.length<qs.length by omega))) x0 x1;refine⟨v,by rw[e];exact ev,ka,va++[v],by rw[Qd],?_,by rw[Pk,Pq];omega,λw hw=>?_⟩
    ·rw[QJ ‹0›]at hka ⊢;exact hka
    ·rcases List.mem_append.mp hw with z|z
     ·exact hva w z
     ·rw[List.mem_singleton.mp z];exact sv
  have gt:gT 2 (kI [5,6]) (fld ((ks.map toD++qs)[i]'‹0›)) [‹.tup [.tup A,.tup B]›,‹.int mn›,‹.int y›,‹.int z›,some (.own (.lst (ka++va))),none,none]=some [‹.tup [.tup A,.tup B]›,‹.int mn›,‹.int y›,‹.int z›,some (.own (.lst (ka++va))),‹.str ((ks.map toD++qs)[i]'‹0›).1›,‹((ks.map toD++qs)[i]'‹0›).2›]:=rfl;have alen:(ka++va).length<1000:=by rw[Pk];omega
  generalize (ks.map toD++qs)[i]'‹0›=p at step gt;cases hb:decide (((ka++va).length:Int)<mn)with
  |true=>
   obtain⟨v,ev,ka',va',e1,e2,e3,e4⟩:=step y' y0' ‹0›;refine⟨_,_,gt,⟨y',z,ka',va',y0',by omega,z0,z1,e2,e3,e4,rfl⟩,?_⟩;have ap:gh (ka++va) [v]=some (ka'++va'):=(by rw[ky ‹0›,e1]);have sm:=λK:Ks=>kD 4 gh (af (fR (aI (g+1)) (af (ah 6) (af (ah 2) (aq)))) (aq)) K [‹.tup [.tup A,.tup B]›,‹.int mn›,‹.int y'›,‹.int z›,some (.own (.lst (ka++va))),‹.str p.1›,‹p.2›] (xs:=ka++va) rfl;generalize ka++va=A at hb ap sm alen;generalize ka'++va'=B at ap;simp! only[t9,HJ,hb,ey,sm,ev,ap]
  |false=>
   obtain⟨v,ev,ka',va',e1,e2,e3,e4⟩:=step z' z0' ‹0›;refine⟨_,_,gt,⟨y,z',ka',va',y0,y1,z0',by omega,e2,e3,e4,rfl⟩,?_⟩;have ap:gh (ka++va) [v]=some (ka'++va'):=(by rw[ky ‹0›,e1]);have sm:=λK:Ks=>kD 4 gh (af (fR (aI (g+1)) (af (ah 6) (af (ah 3) (aq)))) (aq)) K [‹.tup [.tup A,.tup B]›,‹.int mn›,‹.int y›,‹.int z'›,some (.own (.lst (ka++va))),‹.str p.1›,‹p.2›] (xs:=ka++va) rfl;generalize ka++va=A at hb ap sm alen;generalize ka'++va'=B at ap;simp! only[t9,HJ,hb,ez,sm,ev,ap]
 ·rintro ρ' ⟨y,z,ka,va,y0,y1,z0,z1,hka,lva,hva,rfl⟩;rw[O0,fl]at hka lva;rw[QJ ‹0›]at hka;have kal:ka.length=ks.length:=hka.length;refine⟨ka++va,?_,by rw[Pk];omega,by rw[<-kal,List.take_left];exact hka,λv hv=>?_⟩
  ·rw[hT];generalize ka++va=A;simp! only[]
  ·rcases List.mem_append.mp hv with w|w
   ·exact(yo hka.sh v w).of0 _
   ·exact hva v w
def GP(n g:Nat)(hv:∀(d:D)(x:Int),KG n d->0<=x->x<2147483700->∃v,aI (g+1) [d,.int x]=.ok v/\AL (2*n) v)(ks:KL)(qs:List (Str×D))(k1:1<=ks.length)(k8:ks.length<=8)(q8:qs.length<=8)(hk:∀p∈ks,p.2.gd)(hq:∀q∈qs,KG n q.2)(x:Int)(m:Nat)(h0:0<=x)(h1:x<2147483700)(hm:m<=3):
  ∃v:D,bb (g+3) [fr ks qs,.int x,.int m]=.ok v/\AL (2*n+2) v:=by
 have rn:=lx m ‹0›;obtain⟨T,hT⟩:∃T:cK,T=(fY 3 (bL (fR (aN cz 2 4) (af (fL gD (af (f2 aD (ah 0) (fC (.int 0))) (aq))) (af (ah 3) (aq)))))):=⟨_,rfl⟩
 rw[iK,mq];unfold kj;rw[<-hT];simp! only[Ik,rn];refine fS (Q:=λz=>∃v:D,z=.ok v/\AL (2*n+2) v)
  (λi ρ=>∃(y:Int)(rs:List (List D)),0<=y/\y<2147483700/\rs.length=i/\(∀r∈rs,r.length<=16/\Sh (ks.map (·.2.b)) (r.take ks.length)/\∀v∈r,AL (2*n) v)/\ρ=[‹fr ks qs›,‹.int y›,‹.int m›,some (.own (.lst (rs.map .tup))),none]) ?_ ⟨x,[],h0,h1,rfl,(λ_ h=>nomatch h),rfl⟩ ?_
 ·rintro i d ρ kk hd ⟨y,rs,y0,y1,rl,hr,rfl⟩;have hi:=cW hd;rw[dy]at hi;obtain⟨y',y0',y1',ey⟩:=gI y y0 y1;obtain⟨vs,ev,v1,v2,v3⟩:=DN n g hv ks qs k8 q8 hk hq (ks.map kf) (qs.map fld) (by rw[P7,xB]) 0 0 y' (by decide) (by decide) y0' ‹0›;refine⟨_,_,rfl,⟨y',rs++[vs],y0',by omega,by rw[Pk,Pq,rl],λr h=>?_,rfl⟩,?_⟩
  ·rcases List.mem_append.mp h with z|z
   ·exact hr r z
   ·rw[List.mem_singleton.mp z];exact⟨by omega,v2.sh,v3⟩
  ·have ap:gh (rs.map .tup) [.tup vs]=some ((rs++[vs]).map .tup):=by
    rw[ky (by rw[O0];omega),P7];rfl
   have sm:=λK:Ks=>kD 3 gh (af (fR (aZ (g+2)) (af (ah 0) (af (fC (.int 0)) (af (fC (.int 0)) (af (ah 1) (aq)))))) (aq)) K [‹fr ks qs›,‹.int y'›,‹.int m›,some (.own (.lst (rs.map .tup))),‹d›] (xs:=rs.map .tup) rfl;generalize (rs++[vs]).map D.tup=Y at ap ⊢;generalize rs.map D.tup=Z at ap sm ⊢;simp! only[ey,sm,ev,ap]
 ·rintro ρ' ⟨y,rs,y0,y1,rl,hr,rfl⟩;rw[dy]at rl;obtain⟨t,et,_,tm,tl⟩:=vw (σ:=ks.map (·.2.b)) (kl:=ks.length) (λz=>by have:=congrArg List.length z;rw[O0,Px]at this;omega) (by rw[O0]) rs (λr h=>(hr r h).2.1) ‹0›;refine⟨.tup (t.map .tup),?_,AL.tup (by rw[O0];omega) λv hv=>?_⟩
  ·rw[hT];simp! only[O0,et]
  ·obtain⟨r,h1,rfl⟩:=List.mem_map.mp hv;obtain⟨w1,_,w3⟩:=hr r (tm r h1);exact AL.tup ‹0› w3
def ER:∀(n g:Nat),3*n+1<=g->∀(d:D)(x:Int),KG n d->0<=x->x<2147483700->∃v,aI g [d,.int x]=.ok v/\AL (2*n) v:=by
 intro n
 induction n with
 |zero=>
  intro g hg d x hd h0 h1;obtain⟨g,rfl⟩:∃g',g=g'+1:=⟨g-1,by omega⟩
  obtain⟨c,cg,rfl⟩:=hd;obtain⟨v,ev,sv⟩:=uf c cg g x h0 h1;exact⟨v,ev,yo (zI sv .nil) v OJ⟩
 |succ n ih=>
  intro g hg d x hd h0 h1;obtain⟨g,rfl⟩:∃g',g=g'+3+1:=⟨g-4,by omega⟩
  rcases hd with⟨c,cg,rfl⟩|⟨ks,qs,b,rfl,k1,k8,hk,q8,hq⟩
  ·obtain⟨v,ev,sv⟩:=uf c cg (g+3) x h0 h1;exact⟨v,ev,(yo (zI sv .nil) v OJ).of0 _⟩
  ·have d3:=gd 3;have g3:=gm 3;obtain⟨m,hm,em⟩:∃m:Nat,m<=3/\pB [.int (x%3),.int (if b then 1 else 0)]=some (.int (m:Int)):=by
    refine⟨(if(if b then(1:Int)else 0)>x%3 then(if b then(1:Int)else 0)else x%3).toNat,?_,?_⟩
    ·cases b<;>simp<;>split<;>omega
    ·rw[my];congr 2;cases b<;>simp<;>split<;>omega
   obtain⟨v,ev,av⟩:=GP n g (ih (g+1) ‹0›) ks qs k1 k8 q8 hk hq (x/3) m ‹0› ‹0› hm;refine⟨v,?_,av⟩;rw[fJ,eW];unfold ie;simp! only[HS,G4,d3,g3,DP,em,ev]
def wm(n:Nat)(hn:n<=2)(ks:KL)(qs:List (Str×D))(k8:ks.length<=8)(q8:qs.length<=8)(hk:∀p∈ks,p.2.gd)(hq:∀q∈qs,KG n q.2)(A:List D)(em:A=(ks.map toD++qs).map fld)(x:Int)(h0:0<=x)(h1:x<2147483700):
  ∃vs:List D,aN cD 2 2 [.tup A,.int x]=.ok (.tup vs)/\vs.length=ks.length+qs.length/\qa ks (vs.take ks.length)/\∀v∈vs,AL 4 v:=by
 obtain⟨vs,ev,v1,v2,v3⟩:=DN n 10 (ER n 11 ‹0›) ks qs k8 q8 hk hq A [] (by rw[O5];exact em) 0 0 x (by decide) (by decide) h0 h1;have ev:aZ 12 [.tup [.tup A,.tup []],.int 0,.int 0,.int x]=.ok (.tup vs):=ev;refine⟨vs,?_,v1,v2,λv h=>AL.le ‹0› (v3 v h)⟩;rw[eW];unfold cD;simp! only[Fh,qb,ev]
def AD(n:Nat)(hn:n<=2)(ks:KL)(qs:List (Str×D))(k1:1<=ks.length)(k8:ks.length<=8)(q8:qs.length<=8)(hk:∀p∈ks,p.2.gd)(hq:∀q∈qs,KG n q.2)(A:List D)(em:A=(ks.map toD++qs).map fld)(ns:List Int):
  ∃t:List (List D),aN dQ 3 5 [.int ks.length,.tup A,.lst (ns.map .int)]=.ok (.tup (t.map .tup))/\Gc ks.length t/\t.length<20/\∀r∈t,r.length=ks.length+qs.length/\qa ks (r.take ks.length)/\∀v∈r,AL 4 v:=by
 obtain⟨N,hN,rn⟩:∃N:Nat,N<=18/\∀e1 e2:Int,pB [.int (ns.length:Int),.int 3]=some (.int e1)->oS [.int e1,.int 20]=some (.int e2)->sG [.int 2,.int e2]=some (gS 2 N):=by
  refine⟨((if(20:Int)<(if(3:Int)>(ns.length:Int)then 3 else(ns.length:Int))then 20 else(if(3:Int)>(ns.length:Int)then 3 else(ns.length:Int)))-2).toNat,?_,λe1 e2 h1 h2=>?_⟩
  ·split<;>split<;>omega
  ·rw[my]at h1;cases h1;rw[mr]at h2;cases h2;generalize he:(if(20:Int)<(if(3:Int)>(ns.length:Int)then 3 else(ns.length:Int))then 20 else(if(3:Int)>(ns.length:Int)then 3 else(ns.length:Int)))=e;have e2:2<=e/\e<=20:=(by rw[<-he];split<;>split<;>omega);show(if okR 2&&okR e then some (gS 2 ((e-2).toNat))else none)=_;have o1:okR 2=true:=decide_eq_true ⟨by decide,by decide⟩;have o2:okR e=true:=decide_eq_true ⟨by omega,by omega⟩;rw[o1,o2];rfl
 have mx:=my (ns.length:Int) 3;have rn:=rn _ _ mx (mr _ _);obtain⟨T,hT⟩:∃T:cK,T=(fY 3 (bL (fR (aN cz 2 4) (af (ah 0) (af (ah 3) (aq)))))):=⟨_,rfl⟩
 rw[mq];unfold dQ;rw[<-hT];simp! only[Ik,O0,rn];refine fS (Q:=λz=>∃t:List (List D),z=.ok (.tup (t.map .tup))/\Gc ks.length t/\t.length<20/\∀r∈t,r.length=ks.length+qs.length/\qa ks (r.take ks.length)/\∀v∈r,AL 4 v)
  (λi ρ=>∃rs:List (List D),rs.length=i/\(∀r∈rs,r.length=ks.length+qs.length/\qa ks (r.take ks.length)/\∀v∈r,AL 4 v)/\ρ=[‹.int ks.length›,‹.tup A›,‹.lst (ns.map .int)›,some (.own (.lst (rs.map .tup))),none]) ?_ ⟨[],rfl,(λ_ h=>nomatch h),rfl⟩ ?_
 ·rintro i d ρ kk hd ⟨rs,rl,hr,rfl⟩;have hi:=cW hd;rw[dy]at hi;have hdi:d=.int ((2+i:Nat):Int):=by
   rw[kQ,Ph,Qa hi]at hd;cases hd;simp
  subst hdi;obtain⟨x,x0,x1,ex⟩:=pW ns (2+i) ‹0›;obtain⟨vs,ev,vp⟩:=wm n hn ks qs k8 q8 hk hq A em x x0 ‹0›;refine⟨_,_,rfl,⟨rs++[vs],by rw[Pk,Pq,rl],λr h=>?_,rfl⟩,?_⟩
  ·rcases List.mem_append.mp h with z|z
   ·exact hr r z
   ·rw[List.mem_singleton.mp z];exact vp
  ·have ap:gh (rs.map .tup) [.tup vs]=some ((rs++[vs]).map .tup):=by
    rw[ky (by rw[O0];omega),P7];rfl
   have sm:=λK:Ks=>kD 3 gh (af (fR (aN cD 2 2) (af (ah 1) (af (fR (aN bV 2 3) (af (ah 2) (af (ah 4) (aq)))) (aq)))) (aq)) K [‹.int ks.length›,‹.tup A›,‹.lst (ns.map .int)›,some (.own (.lst (rs.map .tup))),‹.int ((2+i:Nat):Int)›] (xs:=rs.map .tup) rfl;generalize (rs++[vs]).map D.tup=Y at ap ⊢;generalize rs.map D.tup=Z at ap sm ⊢;simp! only[sm,ex,ev,ap]
 ·rintro ρ' ⟨rs,rl,hr,rfl⟩;rw[dy]at rl;obtain⟨t,et,ri,tm,tl⟩:=vw (σ:=ks.map (·.2.b)) (kl:=ks.length) (λz=>by have:=congrArg List.length z;rw[O0,Px]at this;omega) (by rw[O0]) rs (λr h=>(hr r h).2.1.sh) ‹0›;refine⟨t,?_,ri,by omega,λr h=>hr r (tm r h)⟩;rw[hT];simp! only[et]
def zip_get:∀(xs:List D)(i:Nat)(d:D),(kE xs xs)[i]?=some d->∃x∈xs,d=.tup [x,x]
 |x::xs,0,d,h=>by cases h;exact⟨x,OJ,rfl⟩
 |x::xs,i+1,d,h=>by
  obtain⟨y,h1,h2⟩:=zip_get xs i d h;exact⟨y,OL _ h1,h2⟩
def lX:∀(n g:Nat)(d:D),n<g->AL n d->aM g [d,d]=.ok (.bl true):=by
 intro n
 induction n with
 |zero=>
  intro g d hg hd;obtain⟨g,rfl⟩:∃g',g=g'+1:=⟨g-1,by omega⟩
  show aN (eV (aM g)) 2 4 [d,d]=_;rw[eW];unfold eV;rcases hd with⟨i,rfl⟩|⟨x,rfl⟩
  ·have t2:mM "str" (.int i)=some (.bl false):=rfl;have t3:mM "int" (.int i)=some (.bl true):=rfl;have t4:mM "bool" (.int i)=some (.bl false):=rfl;simp! only[t2,t3,t4,beq_self_eq_true,PZ]
  ·have t2:mM "str" (.str x)=some (.bl true):=rfl;simp! only[t2,beq_self_eq_true,PZ]
 |succ n ih=>
  intro g d hg hd;obtain⟨g,rfl⟩:∃g',g=g'+1:=⟨g-1,by omega⟩
  show aN (eV (aM g)) 2 4 [d,d]=_;rw[eW];unfold eV;rcases hd with(⟨i,rfl⟩|⟨x,rfl⟩)|⟨ds,rfl,dl,hds⟩
  ·have t2:mM "str" (.int i)=some (.bl false):=rfl;have t3:mM "int" (.int i)=some (.bl true):=rfl;have t4:mM "bool" (.int i)=some (.bl false):=rfl;simp! only[t2,t3,t4,beq_self_eq_true,PZ]
  ·have t2:mM "str" (.str x)=some (.bl true):=rfl;simp! only[t2,beq_self_eq_true,PZ]
  ·have t1:mM "tuple" (.tup ds)=some (.bl true):=rfl;have t2:mM "str" (.tup ds)=some (.bl false):=rfl;have t3:mM "int" (.tup ds)=some (.bl false):=rfl;have t4:mM "bool" (.tup ds)=some (.bl false):=rfl;simp! only[t1,t2,t3,t4,beq_self_eq_true,Cb];refine fS (Q:=λz=>z=.ok (.bl true)) (λi ρ=>ρ=[‹.tup ds›,‹.tup ds›,none,none]) ?_ rfl ?_
   ·rintro i d ρ kk hd rfl;obtain⟨x,hx,rfl⟩:=zip_get ds i d hd;have ea:=ih g x ‹0› (hds x hx);refine⟨[‹.tup ds›,‹.tup ds›,‹x›,‹x›],_,rfl,rfl,?_⟩;simp! only[ea]
   ·rintro ρ' rfl;rfl
noncomputable def kq(f:List D):List Key:=(keysOf f).getD []
def KH(q:List Key):kq (q.map bQ)=q:=by unfold kq;rw[cQ];rfl
def A2{σ:List Bool}{f:List D}(h:Sh σ f):(kq f).map bQ=f:=by
 obtain⟨q,e⟩:=pI h;rw[e,KH]
def Dr{σ:List Bool}{f f':List D}(h:Sh σ f)(h':Sh σ f')(e:kq f=kq f'):f=f':=by
 rw[<-A2 h,e,A2 h']
def As:∀(ps al:List (List Key×D)),((al++ps).map (·.1)).Nodup->ps.foldl (λal p=>iW al p.1 p.2) al=al++ps
 |[],al,_=>by rw[O5];rfl
 |p::ps,al,h=>by
  rw[Qv];have e:iW al p.1 p.2=al++[p]:=by
   unfold iW;rw[if_neg];intro z;obtain⟨a,ha,e⟩:=List.any_eq_true.mp z;rw[P7,OZ]at h;exact(List.nodup_append.mp h).2.2 a.1 (List.mem_map.mpr ⟨a,ha,rfl⟩) p.1 OJ (of_decide_eq_true e)
  rw[e,As ps (al++[p]) (by rw[Qd];exact h),Qd];rfl
def ya:∀ps:List (List Key×D),ml (ps.map yw)=some ps
 |[]=>rfl
 |p::ps=>by
  show(yV (yw p)).bind (λq=>(ml (ps.map yw)).map (q::·))=_;rw[ya ps];show((kF (.tup (p.1.map bQ))).map _).bind _=_;rw[tE];rfl
variable{τ:List Bool}{m:Nat}
def IZ{T:List (List D)}(hs:∀r∈T,Sh τ (r.take m))(h:Gc m T):T.Pairwise λa b=>a.take m≠b.take m:=
 List.Pairwise.imp_of_mem (λ{a b} ha hb e z=>by rw[z,nU (hs b hb)]at e;cases e) h
structure So(τ:List Bool)(m:Nat)(L:List (List D)):Prop where
 t0:τ≠[]
 hm:m=τ.length
 sh:∀r∈L,Sh τ (r.take m)
 pw:L.Pairwise λa b=>a.take m≠b.take m
 ln:L.length<64
def So.prog{L T:List (List D)}(h:So τ m L)(r:Gc m T)(p:T.Perm L):aN dI 2 2 [.int m,.lst (L.map .tup)]=.ok (.tup (T.map .tup)):=by
 have k:KZ m (L.map .tup):=⟨by rw[O0];exact h.ln,τ,h.t0,λx hx=>by
  obtain⟨r,hr,rfl⟩:=List.mem_map.mp hx;exact⟨r,rfl,h.sh r hr⟩,List.pairwise_map.mpr h.pw⟩
 have so:jq (uI m) (L.map .tup)=T.map .tup:=by
  refine yv (σ:=τ) (λx hx=>?_) ?_ ?_ (p.map _)
  ·obtain⟨r,hr,rfl⟩:=List.mem_map.mp hx;exact h.sh r hr
  ·exact List.pairwise_map.mpr h.pw
  ·exact List.pairwise_map.mpr r
 have e:qe (.lst (L.map .tup)) (.int m)=some (.lst (T.map .tup)):=by
  show(if(0:Int)<=(m:Int)then sL ((m:Int)).toNat (L.map .tup)else none)=_;rw[if_pos ‹0›,Pl];unfold sL;rw[if_pos k,so]
 rw[eW];unfold dI;simp! only[e]
def Jg(xs:List D):vv [.lst xs]=some (.lst xs):=nr rfl
def mn(i j:Int):Int:=if j<i then j else i
def KA(a:Kd):pl a.d=true:=by
 cases a with
 |num _ _=>rfl
 |wrd ws=>
  show pl (.tup [.str "word",.tup (ws.map .str)])=true;rw[fH];show(pl (.str "word")&&(pl (.tup (ws.map .str))&&oV []))=true;rw[fH,pf D.str λ_=>rfl];rfl
def Kd.srt:Kd->Str
 |.num _ _=>"number"
 |.wrd _=>"word"
def Kd.ok:Kd->Prop
 |.num _ _=>True
 |.wrd ws=>ws.length<=100
def Kd.bad:Kd->Bool
 |.num a b=>decide (b<a)
 |.wrd ws=>ws.isEmpty
def uM:Kd->Kd->Kd
 |.num a b,.num x y=>.num (mx a x) (mn b y)
 |.wrd ws,.wrd us=>.wrd (ws.filter λw=>us.contains w)
 |k,_=>k
def bo(k s:Kd):D:=if(uM k s).bad then .non else(uM k s).d
def J0(k:Kd):aD k.d (.int 0)=some (.str k.srt):=by
 cases k with
 |num a b=>exact pY _ _
 |wrd ws=>exact pY _ _
def Bk{k s:Kd}(h:k.srt=s.srt)(hk:k.ok):aN qz 2 2 [k.d,s.d]=.ok (bo k s)/\aN eP 2 2 [k.d,s.d]=.ok (uM k s).d:=by
 rw[eW,eW];unfold qz eP;cases k with
 |num a b=>
  cases s with
  |num x y=>
   have bn:aN ga 2 4 [.tup [.str "number",.int a,.int b],.tup [.str "number",.int x,.int y]]=.ok (bo (.num a b) (.num x y)):=by
    rw[eW];unfold ga;cases hd:decide (mx a x<=mn b y)with
    |true=>
     have e:bo (.num a b) (.num x y)=.tup [.str "number",.int (mx a x),.int (mn b y)]:=by
      unfold bo;rw[if_neg]
      ·rfl
      ·show¬decide (mn b y<mx a x)=true
       have:=of_decide_eq_true hd
       rw[decide_eq_false ‹0›];simp
     have l1:decide ((if x>a then x else a)<=(if y<b then y else b))=true:=hd;rw[e];simp! only[l1,Jx];rfl
    |false=>
     have e:bo (.num a b) (.num x y)=.non:=by
      unfold bo;rw[if_pos];show decide (mn b y<mx a x)=true
      have:=of_decide_eq_false hd
      exact decide_eq_true ‹0›
     have l1:decide ((if x>a then x else a)<=(if y<b then y else b))=false:=hd;rw[e];simp! only[l1]
   constructor
   ·simp! only[Kd.d,wx,bn]
   ·simp! only[Kd.d,wx,Jx];rfl
  |wrd us=>exact absurd (show(("number":Str))="word"from h) (by decide +kernel)
 |wrd ws=>
  cases s with
  |num x y=>exact absurd (show(("word":Str))="number"from h) (by decide +kernel)
  |wrd us=>
   have hk:ws.length<=100:=hk;have f0:∀tl:ay,gz [none,some 1] (bi (f2 aD (ah 0) (fC (.int 1)))) (gN 0) (fB (f2 Fi (ah 0) (f2 aD (ah 1) (fC (.int 1))))) (ah 0) (‹.tup [.str "word",.tup (ws.map .str)]›::‹.tup [.str "word",.tup (us.map .str)]›::tl)=.ok (.lst ((ws.filter λw=>us.contains w).map .str)):=λtl=>by
    refine dR (ds:=ws.map .str) (by simp! only[]) (by rw[O0];omega) ?_;refine jR D.str (λw=>us.contains w) D.str ws λw _=>⟨_,rfl,?_,rfl⟩
    simp! only[wN]
   have bw:aN ia 2 3 [.tup [.str "word",.tup (ws.map .str)],.tup [.str "word",.tup (us.map .str)]]=.ok (bo (.wrd ws) (.wrd us)):=by
    have f0:=f0 [none];rw[eW];unfold ia;cases q:(ws.filter λw=>us.contains w)with
    |nil=>
     rw[q]at f0;have e:bo (.wrd ws) (.wrd us)=.non:=by
      unfold bo;rw[if_pos];show(ws.filter λw=>us.contains w).isEmpty=true;rw[q];rfl
     rw[e];have n0:(([]:List Str).map D.str)=[]:=rfl;rw[n0]at f0;simp! only[f0];rfl
    |cons a r=>
     rw[q]at f0;have e:bo (.wrd ws) (.wrd us)=.tup [.str "word",.tup ((a::r).map .str)]:=by
      unfold bo;rw[if_neg]
      ·show D.tup [.str "word",.tup ((ws.filter λw=>us.contains w).map .str)]=_;rw[q]
      ·show¬(ws.filter λw=>us.contains w).isEmpty=true;rw[q];simp
     have ne:((a::r).map D.str).isEmpty=false:=rfl;rw[e];generalize (a::r).map D.str=Z at f0 ne;simp! only[f0,ne,qb]
   constructor
   ·simp! only[Kd.d,xc,wR,bw]
   ·have f0:=f0 [];simp! only[Kd.d,xc,f0,qb];rfl
def AV:∀a b:List Str,jp (a.map .str) (b.map .str)=decide (a=b)
 |[],[]=>by unfold jp;simp
 |[],_::_=>by rw[Pt,OZ];unfold jp;simp
 |_::_,[]=>by rw[Pt,OZ];unfold jp;simp
 |x::a,y::b=>by
  rw[OZ,OZ];unfold jp;rw[AV a b]
  have:pyEq (.str x) (.str y)=(x==y):=by unfold pyEq;rfl
  rw[this,Bool.eq_iff_iff];simp
def Fs(a b:List Str):zm (.lst (a.map .str)) (.lst (b.map .str))=some (.bl (!decide (a=b))):=by
 have e:zm (.lst (a.map .str)) (.lst (b.map .str))=if(pl (.lst (a.map .str))&&pl (.lst (b.map .str)))&&(gF 8 (.lst (a.map .str))||gF 8 (.lst (b.map .str)))then some (.bl (!pyEq (.lst (a.map .str)) (.lst (b.map .str))))else none:=rfl
 have d:gF 8 (.lst (a.map .str))=true:=by
  show(a.map D.str).all (gF 7)=true;rw[PV];exact List.all_eq_true.mpr λ_ _=>rfl
 rw[e,fG,fG,pf D.str (λ_=>rfl) a,pf D.str (λ_=>rfl) b,d];show some (D.bl (!pyEq (.lst (a.map .str)) (.lst (b.map .str))))=_;rw[pyEq,AV]
abbrev ZP:=(Str×Kd)×(Str×Kd)
structure Mt(c e:Kd):Prop where
 o1:c.ok
 o2:e.ok
 s:c.srt=e.srt
 b:(uM c e).bad=false
 b':(uM e c).bad=false
def Mt.gd{c e:Kd}(h:Mt c e):(uM c e).gd:=by
 have b:=h.b;have o:=h.o1;have s:=h.s;cases c with
 |num x y=>cases e with
  |num u v=>
   have b:decide (mn y v<mx x u)=false:=b;show mx x u<=mn y v
   have:=of_decide_eq_false b
   omega
  |wrd us=>cases s
 |wrd ws=>cases e with
  |num u v=>cases s
  |wrd us=>
   refine⟨λz=>?_,OG (QZ _ _) o⟩;have b:(ws.filter λw=>us.contains w).isEmpty=false:=b;rw[z]at b;cases b
def Am{α:Type}(f g:α->D):∀L:List α,kE (L.map f) (L.map g)=L.map λz=>.tup [f z,g z]
 |[]=>rfl
 |a::L=>by
  rw[OZ,OZ,OZ,<-Am f g L];rfl
def bk(L:List ZP):KL:=L.map λz=>(z.1.1,uM z.1.2 z.2.2)
abbrev k1(L:List ZP):KL:=L.map (·.1)
abbrev k2(L:List ZP):KL:=L.map (·.2)
abbrev Ok(L:List ZP):Prop:=∀z∈L,z.1.1=z.2.1/\Mt z.1.2 z.2.2
def Hi{L:List ZP}(h:Ok L):∀p∈bk L,p.2.gd:=λp hp=>by
 obtain⟨z,hz,rfl⟩:=List.mem_map.mp hp;exact(h z hz).2.gd
def Dy{α:Type}(f g:α->D)(t:List D):∀L:List α,kE (L.map f) (L.map g++t)=L.map λz=>.tup [f z,g z]
 |[]=>by cases t<;>rfl
 |a::L=>by
  rw[OZ,OZ,OZ,<-Dy f g t L];rfl
def yi{L:List ZP}(h:Ok L)(l8:L.length<=8)(t:KL)(a b:D):aN ce 2 5 [.tup [.tup ((k1 L).map kf),a],.tup [.tup ((k2 L++t).map kf),b]]=.ok (.tup ((bk L).map kf)):=by
 have ze:uT [.tup ((k1 L).map kf),.tup ((k2 L++t).map kf)]=some (L.map λz=>.tup [kf z.1,kf z.2]):=by
  show some (kE ((k1 L).map kf) ((k2 L++t).map kf))=_;rw[QE,P7,QE,Dy];rfl
 obtain⟨T,hT⟩:∃T:cK,T=(fY 2 (bL (fL cu (af (ah 2) (aq))))):=⟨_,rfl⟩
 rw[eW];unfold ce;rw[<-hT];simp! only[Ik,ze];generalize hA:D.tup [.tup ((k1 L).map kf),a]=A;generalize hB:D.tup [.tup ((k2 L++t).map kf),b]=B;refine fS (Q:=λz=>z=.ok (.tup ((bk L).map kf))) (λi ρ=>ρ=[‹A›,‹B›,some (.own (.lst ((bk (L.take i)).map kf))),none,none]) ?_ rfl ?_
 ·rintro i d ρ kk hd rfl;have hi:=cW hd;rw[O0]at hi;rw[Ph,PX hi]at hd;cases hd;obtain⟨_,mt⟩:=h L[i] (QB hi);have ib:=(Bk mt.s mt.o1).2;have ap:gh ((bk (L.take i)).map kf) [.tup [.str L[i].1.1,(uM L[i].1.2 L[i].2.2).d]]=some ((bk (L.take (i+1))).map kf):=by
   unfold bk;rw[ky (by rw[O0,O0,O8];omega),QY hi,P7,P7];rfl
  refine⟨[‹A›,‹B›,some (.own (.lst ((bk (L.take i)).map kf))),‹kf L[i].1›,‹kf L[i].2›],_,rfl,rfl,?_⟩;have sm:=λK:Ks=>kD 2 gh (af (aL (af (f2 aD (ah 3) (fC (.int 0))) (af (fR (aN eP 2 2) (af (f2 aD (ah 3) (fC (.int 1))) (af (f2 aD (ah 4) (fC (.int 1))) (aq)))) (aq)))) (aq)) K [‹A›,‹B›,some (.own (.lst ((bk (L.take i)).map kf))),‹kf L[i].1›,‹kf L[i].2›] (xs:=(bk (L.take i)).map kf) rfl;have j0:aD (kf L[i].1) (.int 0)=some (.str L[i].1.1):=rfl;have j1:aD (kf L[i].1) (.int 1)=some L[i].1.2.d:=rfl;have j2:aD (kf L[i].2) (.int 1)=some L[i].2.2.d:=rfl;generalize (bk (L.take (i+1))).map kf=Y at ap ⊢;generalize (bk (L.take i)).map kf=Z at ap sm ⊢;simp! only[sm,j0,j1,j2,ib,qb,ap]
 ·rintro ρ' rfl;rw[O0,QJ (OT _),hT];simp! only[]
def BG{α:Type}(f h:α->D)(L:List α)(ρ:ay)(G:ay->R (List D))(Fe:FX)(hG:G ρ=.ok (L.map f))(hl:L.length<=1000)(hF:∀z∈L,Fe [‹f z›]=.ok (h z)):gz [none] G (gN 0) (cF) Fe ρ=.ok (.lst (L.map h)):=
 dR hG (by rw[O0];omega) (ju f h L λz hz=>⟨[‹f z›],rfl,rfl,hF z hz⟩)
def Bo(ws:List Str):zm (.lst (ws.map .str)) (.lst (ws.map .str))=some (.bl false):=by
 rw[Fs,decide_eq_true rfl];rfl
def C0{L:List ZP}(h:Ok L)(l8:L.length<=8):aN iA 2 3 [.tup ((k1 L).map kf),.tup ((k2 L).map kf)]=.ok (.tup ((bk L).map kf)):=by
 have ze:uT [.tup ((k1 L).map kf),.tup ((k2 L).map kf)]=some (L.map λz=>.tup [kf z.1,kf z.2]):=by
  show some (kE ((k1 L).map kf) ((k2 L).map kf))=_;rw[QE,QE,Am];rfl
 rw[QE,QE]at ze ⊢;generalize hρ:[some (S.val (.tup (L.map (kf∘(·.1))))),‹.tup (L.map (kf∘(·.2)))›,none]=ρ;have f0:bi (ah 0) ρ=.ok (L.map (kf∘(·.1))):=by rw[<-hρ];simp! only[]
 have f1:bi (ah 1) ρ=.ok (L.map (kf∘(·.2))):=by rw[<-hρ];simp! only[]
 have nme:L.map (λz=>D.str z.2.1)=L.map (λz=>.str z.1.1):=P6 λz hz=>by rw[(h z hz).1]
 have sre:L.map (λz=>D.str z.2.2.srt)=L.map (λz=>.str z.1.2.srt):=P6 λz hz=>by rw[(h z hz).2.s]
 have n1:=BG _ (λz=>.str z.1.1) L ρ _ (f2 aD (ah 0) (fC (.int 0))) f0 ‹0› λz _=>rfl;have n2:=BG _ (λz=>.str z.2.1) L ρ _ (f2 aD (ah 0) (fC (.int 0))) f1 ‹0› λz _=>rfl;have s1:=BG _ (λz=>.str z.1.2.srt) L ρ _ (f2 aD (f2 aD (ah 0) (fC (.int 1))) (fC (.int 0))) f0 ‹0› λz _=>by
  have a:aD (kf z.1) (.int 1)=some z.1.2.d:=rfl;have b:=J0 z.1.2;simp! only[Function.comp_apply,a,b]
 have s2:=BG _ (λz=>.str z.2.2.srt) L ρ _ (f2 aD (f2 aD (ah 0) (fC (.int 1))) (fC (.int 0))) f1 ‹0› λz _=>by
  have a:aD (kf z.2) (.int 1)=some z.2.2.d:=rfl;have b:=J0 z.2.2;simp! only[Function.comp_apply,a,b]
 rw[nme]at n2;rw[sre]at s2;have ne:zm (.lst (L.map λz=>.str z.1.1)) (.lst (L.map λz=>.str z.1.1))=some (.bl false):=by
  have:=Bo (L.map λz=>z.1.1)
  rwa [QE]at this
 have se:zm (.lst (L.map λz=>.str z.1.2.srt)) (.lst (L.map λz=>.str z.1.2.srt))=some (.bl false):=by
  have:=Bo (L.map λz=>z.1.2.srt)
  rwa [QE]at this
 have kk:gz [none,none] (sR (af (ah 0) (af (ah 1) (aq)))) (gT 2 (kI [0,1])) (cF) (fR (aN qz 2 2) (af (f2 aD (ah 0) (fC (.int 1))) (af (f2 aD (ah 1) (fC (.int 1))) (aq)))) ρ=.ok (.lst (L.map λz=>(uM z.1.2 z.2.2).d)):=by
  refine dR (ds:=L.map λz=>.tup [kf z.1,kf z.2]) (by rw[<-hρ];simp! only[ze]) (by rw[O0];omega) ?_;refine ju (λz:ZP=>D.tup [kf z.1,kf z.2]) _ L λz hz=>⟨[‹kf z.1›,‹kf z.2›],by rw[<-hρ];rfl,rfl,?_⟩
  obtain⟨_,mt⟩:=h z hz;have ib:=(Bk mt.s mt.o1).1;have b:=mt.b;unfold bo at ib;rw[b,if_neg OX]at ib;have j1:aD (kf z.1) (.int 1)=some z.1.2.d:=rfl;have j2:aD (kf z.2) (.int 1)=some z.2.2.d:=rfl;simp! only[j1,j2,ib]
 have inn:Fi .non (.lst (L.map λz=>(uM z.1.2 z.2.2).d))=some (.bl false):=by
  show(if(pl .non&&oV (L.map λz=>(uM z.1.2 z.2.2).d))&&gF 8 .non then some (D.bl (inD .non (L.map λz=>(uM z.1.2 z.2.2).d)))else none)=_;rw[D7 λx hx=>by
   obtain⟨z,_,rfl⟩:=List.mem_map.mp hx;exact KA _]
  show some (D.bl (inD .non (L.map λz=>(uM z.1.2 z.2.2).d)))=_;congr 2;unfold inD;rw[QF];refine List.any_eq_false.mpr λz _=>?_
  have:pyEq (uM z.1.2 z.2.2).d .non=false:=by
   cases uM z.1.2 z.2.2 with
   |num _ _=>unfold Kd.d pyEq;rfl
   |wrd _=>unfold Kd.d pyEq;rfl
  rw[Function.comp_apply,this];exact OX
 have ze2:uT [.tup (L.map (kf∘(·.1))),.lst (L.map λz=>(uM z.1.2 z.2.2).d)]=some (L.map λz=>.tup [kf z.1,(uM z.1.2 z.2.2).d]):=by
  show some (kE _ _)=_;rw[Am];rfl
 have fi:gz [none,none] (sR (af (ah 0) (af (ah 2) (aq)))) (gT 2 (kI [0,1])) (cF) (aL (af (f2 aD (ah 0) (fC (.int 0))) (af (ah 1) (aq)))) [‹.tup (L.map (kf∘(·.1)))›,‹.tup (L.map (kf∘(·.2)))›,‹.lst (L.map λz=>(uM z.1.2 z.2.2).d)›]=.ok (.lst ((bk L).map kf)):=by
  unfold bk;rw[QE];refine dR (ds:=L.map λz=>.tup [kf z.1,(uM z.1.2 z.2.2).d]) (by simp! only[ze2]) (by rw[O0];omega) ?_;refine ju (λz:ZP=>D.tup [kf z.1,(uM z.1.2 z.2.2).d]) _ L λz hz=>⟨[‹kf z.1›,‹(uM z.1.2 z.2.2).d›],rfl,rfl,?_⟩
  have k0:aD (kf z.1) (.int 0)=some (.str z.1.1):=rfl;simp! only[k0,qb];rfl
 rw[eW];unfold iA;rw[<-hρ]at n1 n2 s1 s2 kk;generalize (bk L).map kf=BK at fi ⊢;simp! only[n1,n2,ne,s1,s2,se,kk,inn,fi]
def zX(x:Int):∃us:List Str,us≠[]/\us.length<=8/\aN d9 1 6 [.int x]=.ok (.lst (us.map .str)):=by
 have g26:=gm 26;have d26:=gd 26;have LL:(("abcdefghijklmnopqrstuvwxyz":Str)).length=26:=by decide +kernel
 generalize hL:("abcdefghijklmnopqrstuvwxyz":Str)=L at LL;obtain⟨one,ho,e1⟩:=sr L ‹0› (x%26) ‹0› ‹0›;obtain⟨oth,hq,e2⟩:=sr L ‹0› (x/26%26) ‹0› ‹0›;have a1:=jb one oth ‹0› ‹0›;have a2:=jb oth one ‹0› ‹0›;have a3:=jb one one ‹0› ‹0›;have m1:=DS (x:=one) (n:=8) (by decide) (by decide) ‹0›;have m2:=DS (x:=oth) (n:=3) (by decide) (by decide) ‹0›;generalize hW:[D.str "",.str one,.str oth,.str (one++oth),.str (oth++one),.str (lu one 8),.str (one++one),.str (lu oth 3)]=W;have W8:W.length=8:=by rw[<-hW];rfl
 have Ws:∀d∈W,∃w:Str,d=.str w:=by
  rw[<-hW];intro d hd;simp only[Qg,QX,or_false]at hd;rcases hd with rfl|rfl|rfl|rfl|rfl|rfl|rfl|rfl<;>exact⟨_,rfl⟩
 have mW:nc W=some (.lst W):=Ee ‹0›;obtain⟨T,hT⟩:∃T:cK,T=(fY 4 (bL (fL eU (af (fL mR (af (ah 4) (aq))) (aq))))):=⟨_,rfl⟩
 rw[mQ];unfold d9;rw[<-hT];simp! only[hL,g26,e1,d26,e2,sg,a1,a2,a3,m1,m2,hW,mW];refine fS (Q:=λz=>∃us:List Str,us≠[]/\us.length<=8/\z=.ok (.lst (us.map .str))) (λi ρ=>∃ws:List Str,ws.Nodup/\ws.length<=i/\(0<i->ws≠[])/\ρ=[none,none,‹.str one›,‹.str oth›,some (.own (wd ws)),none]) ?_ ⟨[],PB,OT _,λh=>by omega,rfl⟩ ?_
 ·rintro i d ρ kk hd ⟨ws,nd,hl,hn,rfl⟩;have hi:=cW hd;obtain⟨w,rfl⟩:=Ws d (Pj hd);have pn:qV ws w≠[]:=by
   unfold qV;split
   ·rename_i h;intro z;rw[z]at h;simp at h
   ·simp
  refine⟨_,_,rfl,⟨qV ws w,wF w nd,by have:=tS ws w;omega,λ_=>pn,rfl⟩,?_⟩;have pk:=λk:Ks=>wB (i:=4) (fk:=ah 5) (fv:=fC (.bl true)) (k:=k) (ρ:=[none,none,‹.str one›,‹.str oth›,some (.own (wd ws)),‹.str w›]) (al:=AO ws) (q:=.inr w) (d:=.str w) (v:=.bl true) rfl rfl rfl rfl (by simp;omega);simp! only[pk,zD]
 ·rintro ρ' ⟨ws,nd,hl,hn,rfl⟩;rw[W8]at hl hn;obtain⟨us,eu,pu⟩:=HF ws nd ‹0›;refine⟨us,λz=>hn (by decide) (by rw[z]at pu;exact pu.symm.eq_nil),by rw[pu.length_eq];exact hl,?_⟩;rw[hT];simp! only[yK,eu]
def xR:∀(us:List Str)(i:Nat),mE i (us.map .str)=(us.zipIdx i).map λp=>.tup [.int (p.2:Int),.str p.1]
 |[],_=>rfl
 |u::us,i=>by
  rw[OZ,mE,xR us (i+1),Qf,OZ]
def Mt.swap{c e:Kd}(h:Mt c e):Mt e c:=⟨h.o2,h.o1,h.s.symm,h.b',h.b⟩
def HP{lo w f g:Int}(h1:0<=f)(h2:f<=w)(h3:0<=g):Mt (.num lo (lo+w)) (.num (lo+f) (lo+f+g)):=by
 refine⟨trivial,trivial,rfl,?_,?_⟩
 ·show decide (mn (lo+w) (lo+f+g)<mx lo (lo+f))=false;refine decide_eq_false ?_;unfold mn mx;split<;>split<;>omega
 ·show decide (mn (lo+f+g) (lo+w)<mx (lo+f) lo)=false;refine decide_eq_false ?_;unfold mn mx;split<;>split<;>omega
def Ib{a b:List Str}{w:Str}(h1:w∈a)(h2:w∈b)(l1:a.length<=100)(l2:b.length<=100):Mt (.wrd a) (.wrd b):=by
 refine⟨l1,l2,rfl,?_,?_⟩
 ·show(a.filter λw=>b.contains w).isEmpty=false
  have:w∈a.filter λw=>b.contains w:=List.mem_filter.mpr ⟨h1,by simpa using h2⟩
  cases h:a.filter λw=>b.contains w with
  |nil=>rw[h]at this;cases this
  |cons _ _=>rfl
 ·show(b.filter λw=>a.contains w).isEmpty=false
  have:w∈b.filter λw=>a.contains w:=List.mem_filter.mpr ⟨h2,by simpa using h1⟩
  cases h:b.filter λw=>a.contains w with
  |nil=>rw[h]at this;cases this
  |cons _ _=>rfl
def G0(a b c d i:Int)(h0:0<=i)(h1:i<4):∃x:Int,(x=a\/x=b\/x=c\/x=d)/\aD (.lst [.int a,.int b,.int c,.int d]) (.int i)=some (.int x):=by
 rcases(show i=0\/i=1\/i=2\/i=3 by omega)with z|z|z|z<;>subst z
 ·exact⟨a,by simp,rfl⟩
 ·exact⟨b,by simp,rfl⟩
 ·exact⟨c,by simp,rfl⟩
 ·exact⟨d,by simp,rfl⟩
def bit(y m:Int)(j:Nat):Bool:=Builtin.bitAnd (y/m/2^j) 1==1
def Br(us:List Str)(hl:us.length<=8)(sp:Str)(hs:sp∈us)(y m:Int)(h0:0<m)(h1:m<10^200)(x0 x2 x3 x4 x5 x6:Option S):∃ws:List Str,ws.length<=8/\sp∈ws/\gz [none,none,some 8,some 1] (iQ (af (ah 7) (aq))) (gT 2 (kI [0,1])) (FQ (fB (f2 kH (ah 1) (ah 2))) (fB (f2 kH (f2 tX (f2 zO (f2 dg (ah 3) (fC (.int m))) (ah 0)) (fC (.int 1))) (fC (.int 1))))) (ah 1) [x0,‹.int y›,x2,x3,x4,x5,x6,‹.lst (us.map .str)›,‹.str sp›]=.ok (.lst (ws.map .str)):=by
 have dm:=λi=>mU (i:=i) h0 h1;have en:v9 [.lst (us.map .str)]=some ((us.zipIdx 0).map λp=>.tup [.int (p.2:Int),.str p.1]):=by
  show some (mE 0 (us.map .str))=_;rw[xR]
 refine⟨((us.zipIdx 0).filter λp=>(p.1==sp)||bit y m p.2).map (·.1),?_,?_,?_⟩
 ·rw[O0];refine OG (QZ _ _) ?_;rw[Q0];exact hl
 ·obtain⟨j,hj,e⟩:=P4 hs;refine List.mem_map.mpr ⟨(sp,j),List.mem_filter.mpr ⟨?_,by simp⟩,rfl⟩;rw[List.mem_iff_getElem?];refine⟨j,?_⟩;rw[List.getElem?_zipIdx,PX hj,e];simp
 ·refine dR (ds:=(us.zipIdx 0).map λp=>.tup [.int (p.2:Int),.str p.1]) (by simp! only[en]) (by rw[O0,Q0];omega) ?_;refine Eq.trans (jR (ρ:=[none,none,‹.str sp›,‹.int y›]) (g:=gT 2 (kI [0,1])) (λp:Str×Nat=>D.tup [.int (p.2:Int),.str p.1]) (λp=>(p.1==sp)||bit y m p.2) (D.str∘λp:Str×Nat=>p.1) (us.zipIdx 0) λp _=>⟨[‹.int (p.2:Int)›,‹.str p.1›,‹.str sp›,‹.int y›],rfl,?_,?_⟩) (by rw[QE])
  ·have sh:=Ek (y/m) p.2;unfold bit;cases h:(p.1==sp)<;>simp! only[h,dm,sh,xi,Bool.true_or,Bool.false_or]
  ·simp! only[];rfl
def wA(x:Int)(h0:0<=x)(h1:x<2147483700):∃c e:Kd,Mt c e/\aN eM 1 9 [.int x]=.ok (.tup [c.d,e.d]):=by
 obtain⟨y,y0,y1,ey⟩:=gI x h0 h1;have g2:=gm 2;have g3:=gm 3;have g4:=gm 4;have d3:=gd 3;have d12:=gd 12;have d48:=gd 48;have d200:=gd 200;have p7:lj (.int y) (.int 7)=some (.int (y^7)):=xq y 7 (by decide) ‹0›;have pb:=Hj;have gp:=λi=>gb (i:=i) (show(0:Int)<Cv by omega);obtain⟨lo,_,e1⟩:=G0 0 (-3) (0-y^7%Cv) (y^7%Cv) (x/3%4) ‹0› ‹0›;obtain⟨wd',hw,e2⟩:=G0 0 1 6 Cv (x/12%4) ‹0› ‹0›;obtain⟨ex,hx,e3⟩:=G0 0 2 9 Cv (x/48%4) ‹0› ‹0›;have w0:0<=wd':=by omega
 have x0:0<=ex:=by omega
 have gw:=λi=>gb (i:=i) (show(0:Int)<wd'+1 by omega);have f0:=QV (y^7) (show wd'+1≠0 by omega);have f1:=QW (y^7) (show 0<wd'+1 by omega);obtain⟨T,hT⟩:∃T:cK,T=(aG (lK (fB (f2 kH (f2 cB (f2 dg (ah 0) (fC (.int 200))) (fC (.int 2))) (fC (.int 1)))) (bL (aL (af (ah 6) (af (ah 5) (aq))))) (cU)) (bL (aL (af (ah 5) (af (ah 6) (aq)))))):=⟨_,rfl⟩
 have fin:∀(c e:Kd)(x1 x2 x3 x4 x7 x8:Option S),Mt c e->∃c' e':Kd,Mt c' e'/\T K0 [‹.int x›,x1,x2,x3,x4,‹c.d›,‹e.d›,x7,x8]=.ok (.tup [c'.d,e'.d]):=λc e x1 x2 x3 x4 x7 x8 m=>by
  rw[hT];cases hb:(x/200%2==1)with
  |true=>exact⟨e,c,m.swap,by simp! only[d200,g2,hb,qb]⟩
  |false=>exact⟨c,e,m,by simp! only[d200,g2,hb,qb]⟩
 rw[mQ];unfold eM;rw[<-hT];simp only[K0]at fin;cases h3:(x%3==2)with
 |false=>
  obtain⟨c',e',m,e⟩:=fin (.num lo (lo+wd')) (.num (lo+y^7%(wd'+1)) (lo+y^7%(wd'+1)+ex)) (‹.int y›) (‹.int lo›) (‹.int wd'›) (‹.int (y^7%(wd'+1))›) none none (HP f0 ‹0› x0);unfold Kd.d at e;refine⟨c',e',m,?_⟩;refine Eq.trans ?_ e;simp! only[ey,p7,zS,gp,Jh,d3,g4,e1,d12,e2,gw,Jx,d48,e3,g3,h3]
 |true=>
  obtain⟨us,u1,u2,eu⟩:=zX (x/3);have ul:0<us.length:=by
   cases us with
   |nil=>exact absurd rfl u1
   |cons _ _=>simp
  have gu:=λi=>gb (i:=i) (show(0:Int)<(us.length:Int)by omega);have q1:=QV y (show(us.length:Int)≠0 by omega);have q2:=QW y (show(0:Int)<(us.length:Int)by omega);obtain⟨sp,hs,es⟩:∃sp∈us,aD (.lst (us.map .str)) (.int (y%(us.length:Int)))=some (.str sp):=by
   refine⟨us[(y%(us.length:Int)).toNat]'‹0›,QB _,?_⟩;rw[Ja,sJ,p6 q1 q2];rfl
  obtain⟨A,a1,a2,ea⟩:=Br us u2 sp hs y 9 (by decide) (by decide) (‹.int x›) (‹.int lo›) (‹.int wd'›) (‹.int (y^7%(wd'+1))›) (‹.tup [.str "number",.int lo,.int (lo+wd')]›) (‹.tup [.str "number",.int (lo+y^7%(wd'+1)),.int (lo+y^7%(wd'+1)+ex)]›);obtain⟨B,b1,b2,eb⟩:=Br us u2 sp hs y 3000 (by decide) (by decide) (‹.int x›) (‹.int lo›) (‹.int wd'›) (‹.int (y^7%(wd'+1))›) (‹.tup [.str "word",.tup (A.map .str)]›) (‹.tup [.str "number",.int (lo+y^7%(wd'+1)),.int (lo+y^7%(wd'+1)+ex)]›);obtain⟨c',e',m,e⟩:=fin (.wrd A) (.wrd B) (‹.int y›) (‹.int lo›) (‹.int wd'›) (‹.int (y^7%(wd'+1))›) (‹.lst (us.map .str)›) (‹.str sp›) (Ib a2 b2 ‹0› ‹0›);unfold Kd.d at e;refine⟨c',e',m,?_⟩;refine Eq.trans ?_ e;simp! only[ey,p7,zS,gp,Jh,d3,g4,e1,d12,e2,gw,Jx,d48,e3,g3,h3,eu,O0,gu,es,ea,eb,qb]
def rJ(x b:Int)(m:Nat)(h0:0<=x)(h1:x<2147483700)(hb:0<=b)(hm:m<=8):∃L:List ZP,L.length=m/\(∀q∈L,q.1.1=q.2.1/\Mt q.1.2 q.2.2/\∃j:Nat,j<m/\yQ b j q.1.1)/\aN du 3 7 [.int x,.int b,.int m]=.ok (.tup [.tup ((L.map (·.1)).map kf),.tup ((L.map (·.2)).map kf)]):=by
 have rn:=lx m ‹0›;obtain⟨T,hT⟩:∃T:cK,T=(fY 4 (fY 3 (bL (aL (af (fL cu (af (ah 3) (aq))) (af (fL cu (af (ah 4) (aq))) (aq))))))):=⟨_,rfl⟩
 rw[mq];unfold du;rw[<-hT];simp! only[Ik,rn];refine fS (Q:=λz=>∃L:List ZP,L.length=m/\(∀q∈L,q.1.1=q.2.1/\Mt q.1.2 q.2.2/\∃j:Nat,j<m/\yQ b j q.1.1)/\z=.ok (.tup [.tup ((L.map (·.1)).map kf),.tup ((L.map (·.2)).map kf)]))
  (λi ρ=>∃(y:Int)(L:List ZP),0<=y/\y<2147483700/\L.length=i/\(∀q∈L,q.1.1=q.2.1/\Mt q.1.2 q.2.2/\∃j:Nat,j<m/\yQ b j q.1.1)/\ρ=[‹.int y›,‹.int b›,‹.int m›,some (.own (.lst ((L.map (·.1)).map kf))),some (.own (.lst ((L.map (·.2)).map kf))),none,none]) ?_ ⟨x,[],h0,h1,rfl,(λ_ h=>nomatch h),rfl⟩ ?_
 ·rintro i d ρ kk hd ⟨y,L,y0,y1,ll,hq,rfl⟩;have hi:=cW hd;rw[dy]at hi;have hdi:d=.int (i:Int):=by
   rw[kQ,Ph,Qa hi]at hd;cases hd;simp
  subst hdi;obtain⟨y',y0',y1',ey⟩:=gI y y0 y1;obtain⟨c,e,mt,ek⟩:=wA y' y0' ‹0›;obtain⟨nm,en,hnm⟩:=sI b (i:Int) hb ‹0›;have i0:aD (.tup [c.d,e.d]) (.int 0)=some c.d:=pY _ _;have i1:aD (.tup [c.d,e.d]) (.int 1)=some e.d:=rfl;have ap1:gh ((L.map (·.1)).map kf) [.tup [.str nm,c.d]]=some (((L++[((nm,c),(nm,e))]).map (·.1)).map kf):=by
   rw[ky (by rw[O0,O0];omega),P7,P7];rfl
  have ap2:gh ((L.map (·.2)).map kf) [.tup [.str nm,e.d]]=some (((L++[((nm,c),(nm,e))]).map (·.2)).map kf):=by
   rw[ky (by rw[O0,O0];omega),P7,P7];rfl
  refine⟨_,_,rfl,⟨y',L++[((nm,c),(nm,e))],y0',by omega,by rw[Pk,Pq];omega,λq hm=>?_,rfl⟩,?_⟩
  ·rcases List.mem_append.mp hm with z|z
   ·exact hq q z
   ·rw[List.mem_singleton.mp z];exact⟨rfl,mt,i,hi,hnm⟩
  ·generalize ((L++[((nm,c),(nm,e))]).map (·.1)).map kf=Y1 at ap1 ⊢;generalize ((L++[((nm,c),(nm,e))]).map (·.2)).map kf=Y2 at ap2 ⊢;generalize (L.map (·.1)).map kf=Z1 at ap1 ⊢;generalize (L.map (·.2)).map kf=Z2 at ap2 ⊢;have sm1:=λK:Ks=>kD 3 gh (af (aL (af (fR (aN bU 2 7) (af (ah 1) (af (ah 5) (aq)))) (af (f2 aD (ah 6) (fC (.int 0))) (aq)))) (aq)) K [‹.int y'›,‹.int b›,‹.int m›,some (.own (.lst Z1)),some (.own (.lst Z2)),‹.int i›,‹.tup [c.d,e.d]›] (xs:=Z1) rfl;have sm2:=λK:Ks=>kD 4 gh (af (aL (af (fR (aN bU 2 7) (af (ah 1) (af (ah 5) (aq)))) (af (f2 aD (ah 6) (fC (.int 1))) (aq)))) (aq)) K [‹.int y'›,‹.int b›,‹.int m›,some (.own (.lst Y1)),some (.own (.lst Z2)),‹.int i›,‹.tup [c.d,e.d]›] (xs:=Z2) rfl;simp! only[ey,ek,sm1,en,i0,qb,ap1,sm2,i1,ap2]
 ·rintro ρ' ⟨y,L,y0,y1,ll,hq,rfl⟩;rw[dy]at ll;refine⟨L,ll,hq,?_⟩;rw[hT];simp! only[qb]
def Ot(a b c d e f g h:D)(i:Int)(h0:0<=i)(h1:i<8):∃x∈[a,b,c,d,e,f,g,h],aD (.lst [a,b,c,d,e,f,g,h]) (.int i)=some x:=by
 rcases(show i=0\/i=1\/i=2\/i=3\/i=4\/i=5\/i=6\/i=7 by omega)with z|z|z|z|z|z|z|z<;>subst z
 ·exact⟨a,by simp,rfl⟩
 ·exact⟨b,by simp,rfl⟩
 ·exact⟨c,by simp,rfl⟩
 ·exact⟨d,by simp,rfl⟩
 ·exact⟨e,by simp,rfl⟩
 ·exact⟨f,by simp,rfl⟩
 ·exact⟨g,by simp,rfl⟩
 ·exact⟨h,by simp,rfl⟩
def Lc(b:Int)(ws:List Str):Prop:=∀w∈ws,∃j:Nat,j<22/\yQ b j w
def Fv{b:Int}{ws:List Str}(h:Lc b ws){w:Str}{i:Nat}(h1:22<=i)(h2:i<24)(hw:yQ b i w):w∉ws:=λz=>by
 obtain⟨j,hj,q⟩:=h w z
 have:=G6 ‹0› ‹0› ‹0› ‹0› hw q
 omega
def GW{b:Int}{a c:List Str}(h1:Lc b a)(h2:Lc b c):Lc b (a++c):=λw hw=>by
 rcases List.mem_append.mp hw with z|z
 ·exact h1 w z
 ·exact h2 w z
def D6(ρ:ay)(G:ay->R (List D))(L:List (Str×D))(hG:G ρ=.ok (L.map fld))(hl:L.length<=100):gz [none,none] G (gT 2 (kI [0,1])) (cF) (ah 0) ρ=.ok (.lst ((L.map (·.1)).map .str)):=by
 refine dR (ds:=L.map fld) hG (by rw[O0];omega) ?_;rw[QE];refine ju _ _ _ λp _=>⟨_,rfl,rfl,?_⟩
 simp! only[];rfl
def nms(k:KL)(r:List (Str×D)):List Str:=k.map (·.1)++r.map (·.1)
def Eu{k:KL}{r:List (Str×D)}(k8:k.length<=8)(r8:r.length<=8)(ρ:ay)(G:ay->R (List D))(hG:G ρ=.ok (k.map kf++r.map fld)):gz [none,none] G (gT 2 (kI [0,1])) (cF) (ah 0) ρ=.ok (.lst ((nms k r).map .str)):=by
 have em:k.map kf++r.map fld=(k.map toD++r).map fld:=by rw[P7,xB]
 rw[em]at hG;have lc:=D6 ρ G (k.map toD++r) hG (by rw[Pk,O0];omega);have en:(k.map toD++r).map (·.1)=nms k r:=by
  unfold nms;rw[P7,QE];rfl
 rw[en]at lc;exact lc
def HQ(ws:List Str)(h:ws≠[])(x:Int):∃w∈ws,aD (.lst (ws.map .str)) (.int (x%(ws.length:Int)))=some (.str w):=by
 have ul:0<ws.length:=List.length_pos_iff.mpr h;have q1:=QV x (show(ws.length:Int)≠0 by omega);have q2:=QW x (show(0:Int)<(ws.length:Int)by omega);refine⟨ws[(x%(ws.length:Int)).toNat]'‹0›,QB _,?_⟩;rw[Ja,sJ,p6 q1 q2];rfl
def GR(w:Str)(ws:List Str):sV (.str w) (.lst (ws.map .str))=some (.bl (!ws.contains w)):=by
 have e:=FK w ws;have e1:Fi (.str w) (.lst (ws.map .str))=if(pl (.str w)&&oV (ws.map .str))&&gF 8 (.str w)then some (.bl (inD (.str w) (ws.map .str)))else none:=rfl
 have e2:sV (.str w) (.lst (ws.map .str))=if(pl (.str w)&&oV (ws.map .str))&&gF 8 (.str w)then some (.bl (!inD (.str w) (ws.map .str)))else none:=rfl
 rw[e1]at e;rw[e2];split at e
 ·rename_i z;rw[if_pos z];injection e with e;injection e with e;rw[e]
 ·cases e
def l2(a b:D):nc [a,b]=some (.lst [a,b]):=nr rfl
def J6(x e:Int)(e1:1<=e)(e8:e<=8):∃m:Nat,1<=m/\m<=8/\(m:Int)<=max 3 e/\aD (.lst [.int 1,.int 2,.int 1,.int 3,.int 2,.int 1,.int 2,.int e]) (.int (x%8))=some (.int (m:Int)):=by
 obtain⟨d,hd,ed⟩:=Ot (.int 1) (.int 2) (.int 1) (.int 3) (.int 2) (.int 1) (.int 2) (.int e) (x%8) ‹0› ‹0›;obtain⟨m,rfl,h⟩:∃m:Nat,d=.int (m:Int)/\1<=m/\m<=8/\(m:Int)<=max 3 e:=by
  simp only[Qg,QX,or_false]at hd;rcases hd with rfl|rfl|rfl|rfl|rfl|rfl|rfl|rfl
  ·exact⟨1,rfl,by omega⟩
  ·exact⟨2,rfl,by omega⟩
  ·exact⟨1,rfl,by omega⟩
  ·exact⟨3,rfl,by omega⟩
  ·exact⟨2,rfl,by omega⟩
  ·exact⟨1,rfl,by omega⟩
  ·exact⟨2,rfl,by omega⟩
  ·exact⟨e.toNat,by congr 1;omega,by omega⟩
 exact⟨m,h.1,h.2.1,h.2.2,ed⟩
def Hc(x:Int):∃dp:Nat,dp<=2/\aD (.lst [.int 0,.int 0,.int 1,.int 2]) (.int (x%4))=some (.int (dp:Int)):=by
 obtain⟨z,hz,ez⟩:=G0 0 0 1 2 (x%4) ‹0› ‹0›;rcases hz with rfl|rfl|rfl|rfl
 ·exact⟨0,by decide,ez⟩
 ·exact⟨0,by decide,ez⟩
 ·exact⟨1,by decide,ez⟩
 ·exact⟨2,by decide,ez⟩
def qq(dp:Nat)(hd:dp<=2)(x b st:Int)(r:Nat)(h0:0<=x)(h1:x<2147483700)(hb:0<=b)(hs:0<=st)(hr:r<=8):∃qs:List (Str×D),aS 12 [.int x,.int b,.int st,.int 0,.int r,.int dp]=.ok (.tup [.tup [],.tup (qs.map fld)])/\qs.length=r/\(∀q∈qs,KG dp q.2)/\∀(j:Nat)(w:Str),(qs.map (·.1))[j]?=some w->yQ b (st+(j:Int)) w:=by
 obtain⟨ks,qs,e,k0,ql,_,hq,nm⟩:=A5 dp ‹0› x b st 0 r h0 h1 hb hs ‹0› hr
 have:=List.length_eq_zero_iff.mp k0
 subst this;exact⟨qs,e,ql,hq,nm⟩
theorem t0(a b:D):aD (.tup [a,b]) (.int 0)=some a:=rfl
theorem t1(a b:D):aD (.tup [a,b]) (.int 1)=some b:=rfl
def BF(ns:List Int):∃(L:List ZP)(r q:List (Str×D))(n:Nat),1<=L.length/\L.length<=8/\r.length+q.length<=8/\Ok L/\n<=2/\(∀f∈r,KG n f.2)/\(∀f∈q,KG n f.2)/\aN dB 1 8 [.lst (ns.map .int)]=.ok (.tup [fr (k1 L) r,fr (k2 L) q]):=by
 obtain⟨x,x0,x1,ex⟩:=pW ns 0 ‹0›;obtain⟨c1,e1⟩:=TD.Lz ns 1 (by decide);have ex:aN bV 2 3 [.lst (ns.map .int),.int 0]=.ok (.int x):=ex;have mm:=λi=>nZ (i:=i) (j:=48271) (by decide) (by decide);have gM:=gm 2147483647;have g4:=gm 4;have g8:=gm 8;have g9:=gm 9;have d8:=gd 8;have d32:=gd 32;have d64:=gd 64;have d512:=gd 512;have d2048:=gd 2048;obtain⟨b,hb,b0⟩:∃b:Int,c1*48271%2147483647=b/\0<=b:=⟨_,rfl,QV _ (by decide)⟩
 obtain⟨y,y0,y1,ey⟩:=gI x x0 ‹0›;obtain⟨m,m1,m8,_,em⟩:=J6 x (1+x/64%8) ‹0› ‹0›;obtain⟨L,ll,hq,ek⟩:=rJ y b m y0 ‹0› b0 m8;obtain⟨dp,dp2,ed⟩:=Hc (x/8);have l0:∀a b:D,aD (.lst [a,b]) (.int 0)=some a:=λ_ _=>rfl;have l1:∀a b:D,aD (.lst [a,b]) (.int 1)=some b:=λ_ _=>rfl;obtain⟨T,hT⟩:∃T:cK,T=(aG (bg 6 (f2 aD (fR (aS 12) (af (f2 bS (fR (aN aJ 1 1) (af (ah 1) (aq))) (fC (.int 1))) (af (ah 2) (af (fC (.int 8)) (af (fC (.int 0)) (af (f2 aD (ah 5) (fC (.int 0))) (af (ah 4) (aq)))))))) (fC (.int 1)))) (aG (bg 7 (f2 aD (fR (aS 12) (af (f2 bS (fR (aN aJ 1 1) (af (ah 1) (aq))) (fC (.int 2))) (af (ah 2) (af (fC (.int 16)) (af (fC (.int 0)) (af (f2 aD (ah 5) (fC (.int 1))) (af (ah 4) (aq)))))))) (fC (.int 1)))) (bL (aL (af (aL (af (f2 aD (ah 3) (fC (.int 0))) (af (ah 6) (aq)))) (af (aL (af (f2 aD (ah 3) (fC (.int 1))) (af (ah 7) (aq)))) (aq))))))):=⟨_,rfl⟩
 have fin:∀(u v dp:Nat)(k5 k4:D),u+v<=8->dp<=2->k5=.lst [.int u,.int v]->k4=.int dp->∃(r q:List (Str×D)),r.length+q.length<=8/\(∀f∈r,KG dp f.2)/\(∀f∈q,KG dp f.2)/\T K0 [‹.lst (ns.map .int)›,‹.int x›,‹.int b›,‹.tup [.tup ((L.map (·.1)).map kf),.tup ((L.map (·.2)).map kf)]›,‹k4›,‹k5›,none,none]=.ok (.tup [fr (k1 L) r,fr (k2 L) q]):=λu v dp k5 k4 h1 h2 e5 e4=>by
  subst e5 e4;obtain⟨r,er,rl,hr,_⟩:=qq dp h2 (y+1) b 8 u ‹0› ‹0› b0 ‹0› ‹0›;obtain⟨q,eq,ql,hq',_⟩:=qq dp h2 (y+2) b 16 v ‹0› ‹0› b0 ‹0› ‹0›;refine⟨r,q,by omega,hr,hq',?_⟩;rw[hT];simp! only[ey,l0,l1,t0,t1,er,eq,qb]
 rw[mQ];unfold dB;rw[<-hT];simp only[K0]at fin;have ok:Ok L:=λz hz=>⟨(hq z hz).1,(hq z hz).2.1⟩
 cases h3:(x/32%8==3)with
 |true=>
  obtain⟨r,q,h1,h2,h4,e⟩:=fin (x/512%9).toNat (8-x/512%9).toNat 0 (.lst [.int (x/512%9),.int (8-x/512%9)]) (.int 0) ‹0› (by decide) (by rw[Q1 ‹0›,Q1 ‹0›]) rfl;refine⟨L,r,q,0,by omega,by omega,h1,ok,by decide,h2,h4,Eq.trans ?_ e⟩;simp! only[ex,e1,mm,gM,hb,ey,d64,g8,LJ,em,ek,d8,g4,Jh,ed,d512,d2048,l2,d32,h3,g9]
 |false=>
  obtain⟨r,q,h1,h2,h4,e⟩:=fin (x/512%4).toNat (x/2048%4).toNat dp (.lst [.int (x/512%4),.int (x/2048%4)]) (.int dp) ‹0› dp2 (by rw[Q1 ‹0›,Q1 ‹0›]) rfl;refine⟨L,r,q,dp,by omega,by omega,h1,ok,dp2,h2,h4,Eq.trans ?_ e⟩;simp! only[ex,e1,mm,gM,hb,ey,d64,g8,LJ,em,ek,d8,g4,Jh,ed,d512,d2048,l2,d32,h3]
structure Gd(b:Int)(L:List ZP)(t:KL)(r q:List (Str×D))(n:Nat):Prop where
 l1:1<=L.length
 t1:1<=t.length
 l8:L.length+t.length<=8
 r8:r.length<=8
 q8:q.length<=8
 ok:Ok L
 tg:∀p∈t,p.2.gd
 n2:n<=2
 hr:∀f∈r,KG n f.2
 hq:∀f∈q,KG n f.2
 nm:Lc b (nms (k1 L) r)
def yC(ns:List Int):∃(b:Int)(L:List ZP)(t:KL)(r q:List (Str×D))(n:Nat),0<=b/\ns.getD 1 0*48271%2147483647=b/\Gd b L t r q n/\aN cT 1 10 [.lst (ns.map .int)]=.ok (.tup [fr (k1 L) r,fr (k2 L++t) q]):=by
 obtain⟨x,x0,x1,ex⟩:=pW ns 0 ‹0›;have e1:aN cf 2 2 [.lst (ns.map .int),.int 1]=.ok (.int (ns.getD 1 0)):=xu ns 1;have ex:aN bV 2 3 [.lst (ns.map .int),.int 0]=.ok (.int x):=ex;have mm:=λi=>nZ (i:=i) (j:=48271) (by decide) (by decide);have gM:=gm 2147483647;have g2:=gm 2;have g4:=gm 4;have g7:=gm 7;have g8:=gm 8;have d8:=gd 8;have d32:=gd 32;have d64:=gd 64;have d512:=gd 512;have d2048:=gd 2048;have d4096:=gd 4096;have d16384:=gd 16384;obtain⟨b,hb,b0⟩:∃b:Int,ns.getD 1 0*48271%2147483647=b/\0<=b:=⟨_,rfl,QV _ (by decide)⟩
 generalize ns.getD 1 0=c1 at e1 hb;obtain⟨y,y0,y1,ey⟩:=gI x x0 ‹0›;obtain⟨m,m1,_,m7,em⟩:=J6 x (1+x/64%7) ‹0› ‹0›;obtain⟨L,ll,hq,ek⟩:=rJ y b m y0 ‹0› b0 ‹0›;obtain⟨dp,dp2,ed⟩:=Hc (x/8);obtain⟨st,s8,s15,es⟩:∃st:Nat,8<=st/\st<=15/\aD (.lst [.int 8,.int 15]) (.int (x/2048%2))=some (.int (st:Int)):=by
  rcases(show x/2048%2=0\/x/2048%2=1 by omega)with z|z<;>rw[z]
  ·exact⟨8,by decide,by decide,rfl⟩
  ·exact⟨15,by decide,by decide,rfl⟩
 have mi:oS [.int 3,.int (8-(m:Int))]=some (.int (if 8-(m:Int)<3 then 8-(m:Int)else 3)):=mr _ _;generalize hmn:(if 8-(m:Int)<3 then 8-(m:Int)else 3)=mv at mi;have mv1:1<=mv/\mv<=3/\(m:Int)+mv<=8:=by rw[<-hmn];split<;>omega
 have gv:=λi=>gb (i:=i) (show(0:Int)<mv by omega);have w1:=QV (x/4096) (show mv≠0 by omega);have w2:=QW (x/4096) (show 0<mv by omega);obtain⟨wi,hw,wl⟩:∃wi:Nat,1+x/4096%mv=(wi:Int)/\1<=wi/\m+wi<=8:=⟨(1+x/4096%mv).toNat,by omega,by omega,by omega⟩
 obtain⟨mo,hmo,mol⟩:∃mo:Nat,x/16384%4=(mo:Int)/\mo<=3:=⟨(x/16384%4).toNat,by omega,by omega⟩
 obtain⟨T,hT⟩:∃T:cK,T=(aG (bg 7 (f2 aD (fR (aS 12) (af (f2 bS (fR (aN aJ 1 1) (af (ah 1) (aq))) (fC (.int 1))) (af (ah 2) (af (fC (.int 8)) (af (fC (.int 0)) (af (ah 6) (af (ah 5) (aq)))))))) (fC (.int 1)))) (aG (bg 8 (f2 bS (fC (.int 1)) (f2 cB (f2 dg (ah 1) (fC (.int 4096))) (fL oS (af (fC (.int 3)) (af (f2 w8 (fC (.int 8)) (ah 3)) (aq))))))) (aG (bg 9 (fR (aS 12) (af (f2 bS (fR (aN aJ 1 1) (af (ah 1) (aq))) (fC (.int 2))) (af (ah 2) (af (f2 aD (gE (af (fC (.int 8)) (af (fC (.int 15)) (aq)))) (f2 cB (f2 dg (ah 1) (fC (.int 2048))) (fC (.int 2)))) (af (ah 8) (af (f2 cB (f2 dg (ah 1) (fC (.int 16384))) (fC (.int 4))) (af (ah 5) (aq))))))))) (bL (aL (af (aL (af (f2 aD (ah 4) (fC (.int 0))) (af (ah 7) (aq)))) (af (aL (af (f2 bS (f2 aD (ah 4) (fC (.int 1))) (f2 aD (ah 9) (fC (.int 0)))) (af (f2 aD (ah 9) (fC (.int 1))) (aq)))) (aq)))))))):=⟨_,rfl⟩
 have fin:∀(u dp:Nat)(k6 k5:D),u<=7->dp<=2->k6=.int u->k5=.int dp->∃(t:KL)(r q:List (Str×D)),Gd b L t r q dp/\T K0 [‹.lst (ns.map .int)›,‹.int x›,‹.int b›,‹.int m›,‹.tup [.tup ((L.map (·.1)).map kf),.tup ((L.map (·.2)).map kf)]›,‹k5›,‹k6›,none,none,none]=.ok (.tup [fr (k1 L) r,fr (k2 L++t) q]):=λu dp k6 k5 h1 h2 e6 e5=>by
  subst e6 e5;obtain⟨r,er,rl,hr,nr'⟩:=qq dp h2 (y+1) b 8 u ‹0› ‹0› b0 ‹0› ‹0›;obtain⟨t,q,eq,tl,ql,tg,hq',_⟩:=A5 dp ‹0› (y+2) b st wi mo ‹0› ‹0› b0 ‹0› ‹0› ‹0›;refine⟨t,r,q,⟨by omega,by omega,by omega,by omega,by omega,λz hz=>⟨(hq z hz).1,(hq z hz).2.1⟩,tg,h2,hr,hq',GW (λw hw=>?_) λw hw=>?_⟩,?_⟩
  ·obtain⟨p,hp,rfl⟩:=List.mem_map.mp hw;obtain⟨z,hz,rfl⟩:=List.mem_map.mp hp;obtain⟨j,hj,q⟩:=(hq z hz).2.2;exact⟨j,by omega,q⟩
  ·obtain⟨j,hj,ej⟩:=P4 hw;have h:=nr' j w (by rw[PX hj,ej]);rw[O0]at hj;refine⟨8+j,by omega,?_⟩;rw[show((8+j:Nat):Int)=8+(j:Int)by omega];exact h
  ·have ad:=fe ((L.map (·.2)).map kf) (t.map kf) (by rw[O0,O0,O0];omega);rw[<-P7]at ad;rw[hT];simp! only[ey,er,t0,t1,d4096,mi,gv,hw,d2048,g2,l2,es,d16384,g4,hmo,eq,ad,qb]
 rw[mQ];unfold cT;rw[<-hT];simp only[K0]at fin;cases h3:(x/32%8==3)with
 |true=>
  obtain⟨t,r,q,F,e⟩:=fin (x/512%8).toNat 0 (.int (x/512%8)) (.int 0) ‹0› (by decide) (by rw[Q1 ‹0›]) rfl;refine⟨b,L,t,r,q,0,b0,hb,F,Eq.trans ?_ e⟩;simp! only[ex,e1,mm,gM,hb,ey,d64,g7,g8,LJ,em,ek,d8,g4,Jh,ed,d512,d32,h3]
 |false=>
  obtain⟨t,r,q,F,e⟩:=fin (x/512%4).toNat dp (.int (x/512%4)) (.int dp) ‹0› dp2 (by rw[Q1 ‹0›]) rfl;refine⟨b,L,t,r,q,dp,b0,hb,F,Eq.trans ?_ e⟩;simp! only[ex,e1,mm,gM,hb,ey,d64,g7,g8,LJ,em,ek,d8,g4,Jh,ed,d512,d32,h3]
def wZ(ns:List Int){b:Int}(b0:0<=b)(hb:ns.getD 1 0*48271%2147483647=b){L:List ZP}{t:KL}{r q:List (Str×D)}{n:Nat}(g:Gd b L t r q n):∃nm:Str,aN df 3 7 [fr (k1 L) r,fr (k2 L++t) q,.lst (ns.map .int)]=.ok (.str nm):=by
 obtain⟨s,s0,s1,es⟩:=pW ns 1 ‹0›;have es:aN bV 2 3 [.lst (ns.map .int),.int 1]=.ok (.int s):=es;obtain⟨y,y0,y1,ey⟩:=gI s s0 ‹0›;have e1:aN cf 2 2 [.lst (ns.map .int),.int 1]=.ok (.int (ns.getD 1 0)):=xu ns 1;have mm:=λi=>nZ (i:=i) (j:=48271) (by decide) (by decide);have gM:=gm 2147483647;obtain⟨n22,e22,h22⟩:=sI b 22 b0 (by decide);obtain⟨n23,e23,_⟩:=sI b 23 b0 (by decide);have l8:=g.l8;have r8:=g.r8;have q8:=g.q8;obtain⟨k,hk⟩:∃k,k=k1 L:=⟨_,rfl⟩
 obtain⟨p,hp⟩:∃p,p=k2 L++t:=⟨_,rfl⟩
 have k8:k.length<=8:=by rw[hk,O0];omega
 have p8:p.length<=8:=by rw[hp,Pk,O0];omega
 have n1:=g.nm;rw[<-hk]at n1 ⊢;rw[<-hp];have ad1:=fe (k.map kf) (r.map fld) (by rw[O0,O0];omega);have ad2:=fe (p.map kf) (q.map fld) (by rw[O0,O0];omega);have c1:=Eu k8 r8 [‹fr k r›,‹fr p q›,‹.lst (ns.map .int)›,‹.int y›,‹.int b›,none,none] (bi (f2 bS (f2 aD (ah 0) (fC (.int 0))) (f2 aD (ah 0) (fC (.int 1))))) (by simp! only[ad1]);have c2:=Eu p8 q8 [‹fr k r›,‹fr p q›,‹.lst (ns.map .int)›,‹.int y›,‹.int b›,‹.lst ((nms k r).map .str)›,none] (bi (f2 bS (f2 aD (ah 1) (fC (.int 0))) (f2 aD (ah 1) (fC (.int 1))))) (by simp! only[ad2]);have nl:(nms p q).length<=16:=by unfold nms;rw[Pk,O0,O0];omega
 have ad3:=t6 ((nms p q).map .str) [.str n22,.str n23] (by rw[O0];simp;omega);have ea:(nms p q).map D.str++[.str n22,.str n23]=(nms p q++[n22,n23]).map .str:=by rw[P7];rfl
 rw[ea]at ad3;have c3:gz [none,some 5] (bi (ah 6)) (gN 0) (fB (f2 sV (ah 0) (ah 1))) (ah 0) [‹fr k r›,‹fr p q›,‹.lst (ns.map .int)›,‹.int y›,‹.int b›,‹.lst ((nms k r).map .str)›,‹.lst ((nms p q++[n22,n23]).map .str)›]=.ok (.lst (((nms p q++[n22,n23]).filter λw=>!(nms k r).contains w).map .str)):=by
  refine dR (ds:=(nms p q++[n22,n23]).map .str) (by simp! only[]) (by rw[O0,Pk];simp;omega) ?_;refine jR D.str (λw=>!(nms k r).contains w) D.str _ λw _=>⟨_,rfl,?_,rfl⟩
  have ni:=GR w (nms k r);simp! only[ni]
 have ne:((nms p q++[n22,n23]).filter λw=>!(nms k r).contains w)≠[]:=λz=>by
  have m:n22∈(nms p q++[n22,n23]).filter λw=>!(nms k r).contains w:=List.mem_filter.mpr ⟨OU _ OJ,by
   have:=Fv n1 (w:=n22) (i:=22) (by decide) (by decide) h22
   simpa using this⟩
  rw[z]at m;cases m
 obtain⟨nm,hm,em⟩:=HQ _ ne y;refine⟨nm,?_⟩;have gl:=λi=>gb (i:=i) (show(0:Int)<(((nms p q++[n22,n23]).filter λw=>!(nms k r).contains w).length:Int)by have:=List.length_pos_iff.mpr ne;omega);generalize ((nms p q++[n22,n23]).filter λw=>!(nms k r).contains w)=W at c3 em gl;generalize (nms p q++[n22,n23]).map D.str=W0 at ad3 c3;rw[mq];unfold df;simp! only[es,ey,e1,mm,gM,hb,c1,c2,e22,e23,l2,ad3,c3,O0,gl,em]
section
open Classical
variable{τ:List Bool}{m:Nat}
def So.sub{L M:List (List D)}(h:So τ m M)(s:L.Sublist M):So τ m L:=
 ⟨h.t0,h.hm,λr hr=>h.sh r (s.subset hr),h.pw.sublist s,Qc s.length_le h.ln⟩
noncomputable abbrev ak(m:Nat)(V:List (List D)):List (List Key×D):=V.map λr=>(kq (r.take m),D.tup r)
def AQ{V:List (List D)}(h:So τ m V)(X:D)(hX:X=.lst (V.map .tup)\/X=.tup (V.map .tup)):aN ir 2 2 [.int m,X]=.ok (fX (ak m V)):=by
 have ln:=h.ln;have f2':gz [none,some 0] (bi (ah 1)) (gN 0) (cF) (aL (af (bM (ah 0) (bz) (cC (ah 1))) (af (ah 0) (aq)))) [‹.int m›,‹X›]=.ok (.lst ((ak m V).map yw)):=by
  refine dR (ds:=V.map .tup) (by rcases hX with rfl|rfl<;>simp! only[]) (by rw[O0];omega) ?_;rw[QE];refine ju D.tup _ V λr hr=>⟨[‹.tup r›,‹.int m›],rfl,rfl,?_⟩
  simp! only[jK,qb];show _=Except.ok (D.tup [.tup ((kq (r.take m)).map bQ),.tup r]);rw[A2 (h.sh r hr)]
 have knd:((ak m V).map (·.1)).Nodup:=by
  rw[QE];exact List.pairwise_map.mpr (List.Pairwise.imp_of_mem (λ{a b} ha hb ne e=>ne (Dr (h.sh a ha) (h.sh b hb) e)) h.pw)
 have gd:wH [.lst ((ak m V).map yw)]=some (fX (ak m V)):=by
  show(ml _).bind _=_;rw[ya];show(if small _ then _ else _)=_;rw[if_pos (fg (by rw[O0];omega))];unfold Ds;rw[As _ [] knd];rfl
 rw[eW];unfold ir;generalize fX (ak m V)=Z at gd;simp! only[f2',gd]
def D8{V:List (List D)}(h:So τ m V){f:List D}(zs:Sh τ f):gL (.tup f) (fX (ak m V))=some (.bl (!decide (f∈V.map λr=>r.take m))):=by
 show(rj (encK _) ((ak m V).map (·.2)) (.tup f)).bind Ad=_;unfold rj;rw[pq];show((kF (.tup f)).bind λk=>some (D.bl ((ak m V).any λp=>decide (p.1=k)))).bind Ad=_;have e:kF (.tup f)=some (kq f):=by
  conv=>lhs;rw[<-A2 zs]
  exact cQ _
 rw[e];show some (D.bl (!((ak m V).any λp=>decide (p.1=kq f))))=_;congr 3;rw[Bool.eq_iff_iff,List.any_eq_true,decide_eq_true_iff];constructor
 ·rintro⟨p,hp,e⟩;obtain⟨a,ha,rfl⟩:=List.mem_map.mp hp;exact List.mem_map.mpr ⟨a,ha,Dr (h.sh a ha) zs (of_decide_eq_true e)⟩
 ·intro z;obtain⟨a,ha,e⟩:=List.mem_map.mp z;exact⟨_,List.mem_map.mpr ⟨a,ha,rfl⟩,decide_eq_true (by show kq (a.take m)=_;rw[show a.take m=f from e])⟩
def Hx{V T R F:List (List D)}(hF:F=T.filter λr=>!decide (r.take m∈V.map λr=>r.take m))(s:So τ m (V++F))(hT:∀r∈T,Sh τ (r.take m))(tl:T.length<64)(ri:Gc m R)(p:R.Perm (V++F))(Y:D)(hY:Y=.lst (T.map .tup)\/Y=.tup (T.map .tup)):aN dP 3 4 [.int m,.lst (V.map .tup),Y]=.ok (.tup (R.map .tup)):=by
 have hV:=s.sub (List.sublist_append_left V F);have b:=AQ hV (.lst (V.map .tup)) (.inl rfl);have ni:=λr (hr:r∈T)=>D8 hV (hT r hr);have sp:=s.prog ri p;have vl:=s.ln;rw[Pk]at vl;generalize fX (ak m V)=Z at b ni;have lc3:gz [none,some 0,some 3] (bi (ah 2)) (gN 0) (fB (f2 gL (bM (ah 0) (bz) (cC (ah 1))) (ah 2))) (ah 0) [‹.int m›,‹.lst (V.map .tup)›,‹Y›,‹Z›]=.ok (.lst (F.map .tup)):=by
  refine dR (ds:=T.map .tup) (by rcases hY with rfl|rfl<;>simp! only[]) (by rw[O0];omega) ?_;rw[hF];refine p4 (ρ:=[none,‹.int m›,‹Z›]) (g:=gN 0) (C:=fB (f2 gL (bM (ah 0) (bz) (cC (ah 1))) (ah 2))) (Fe:=ah 0) D.tup (λr=>!decide (r.take m∈V.map λr=>r.take m)) D.tup _ λr hr=>⟨[‹.tup r›,‹.int m›,‹Z›],rfl,?_,λ_=>rfl⟩
  have:=ni r hr
  simp! only[jK,this]
 have ad:=t6 (V.map .tup) (F.map .tup) (by rw[O0,O0];omega);rw[<-P7]at ad;rw[mq];unfold dP;simp! only[b,lc3,Jg,ad,sp]
structure Tb(τ:List Bool)(m:Nat)(V:List (List D)):Prop where
 s:So τ m V
 ri:Gc m V
def Tb.of{V:List (List D)}(t0:τ≠[])(hm:m=τ.length)(sh:∀r∈V,Sh τ (r.take m))(ri:Gc m V)(ln:V.length<64):Tb τ m V:=⟨⟨t0,hm,sh,IZ sh ri,ln⟩,ri⟩
def Tb.map{V:List (List D)}(h:Tb τ m V)(g:List D->List D)(hg:∀r∈V,(g r).take m=r.take m):Tb τ m (V.map g):=
 Tb.of h.s.t0 h.s.hm (λr hr=>by
  obtain⟨a,ha,rfl⟩:=List.mem_map.mp hr;rw[hg a ha];exact h.s.sh a ha) (List.pairwise_map.mpr (List.Pairwise.imp_of_mem (λ{a b} ha hb e=>by rw[hg a ha,hg b hb];exact e) h.ri)) (by rw[O0];exact h.s.ln)
def Tb.nil{V:List (List D)}(h:Tb τ m V):Tb τ m []:=Tb.of h.s.t0 h.s.hm (λ_ h=>nomatch h) .nil (by decide)
def G3{V:List (List D)}(h:Tb τ m V)(Y:D)(hY:Y=.lst []\/Y=.tup []):aN dP 3 4 [.int m,.lst (V.map .tup),Y]=.ok (.tup (V.map .tup)):=
 Hx (T:=[]) (F:=[]) rfl (by rw[O5];exact h.s) (λ_ h=>nomatch h) (by decide) h.ri (by rw[O5]) Y hY
def Md{T:List (List D)}(h:Tb τ m T)(Y:D)(hY:Y=.lst (T.map .tup)\/Y=.tup (T.map .tup)):aN dP 3 4 [.int m,.lst [],Y]=.ok (.tup (T.map .tup)):=
 Hx (V:=[]) (T:=T) (F:=T) (List.filter_eq_self.mpr λr _=>by simp).symm h.s h.s.sh h.s.ln h.ri (List.Perm.refl _) Y hY
def FL{T:List (List D)}(h:Tb τ m T):aN dI 2 2 [.int m,.lst (T.map .tup)]=.ok (.tup (T.map .tup)):=h.s.prog h.ri (List.Perm.refl _)
def HC{V:List (List D)}(h:Tb τ m V){e:Nat}(vl:∀r∈V,m<=r.length/\r.length<=100)(o q2:D){k:KL}{r:List (Str×D)}(hk:k.length=m)(he:m+r.length=e):
  aN bf 4 10 [o,.tup [fr k r,q2],.tup [.tup [],.tup []],.tup (V.map .tup)]=.ok (.tup [.tup ((V.map (·.take e)).map .tup),.tup ((V.map λr=>r.take m++r.drop e).map .tup)]):=by
 have b:=AQ (h.nil).s (.tup []) (.inr rfl);have ln:=h.s.ln;have s1:=G3 (h.map (·.take e) λr _=>by rw[Q2,QM ‹0›]) (.lst []) (.inl rfl);have s2:=G3 (h.map (λr=>r.take m++r.drop e) λr hr=>by rw[Q3 (by rw[O8];have:=vl r hr;omega),Q2,PY]) (.tup []) (.inr rfl);have he':(m:Int)+(r.length:Int)=((e:Nat):Int):=by omega
 have c8:∀a0 a1 a2 a4 a6 a7 a8 a9:Option S,gz [none,some 5] (bi (ah 3)) (gN 0) (cF) (bM (ah 0) (bz) (cC (ah 1))) [a0,a1,a2,‹.tup (V.map .tup)›,a4,‹.int e›,a6,a7,a8,a9]=.ok (.lst ((V.map (·.take e)).map .tup)):=λa0 a1 a2 a4 a6 a7 a8 a9=>by
  refine dR (ds:=V.map .tup) (by simp! only[]) (by rw[O0];omega) ?_;rw[QE];refine ju D.tup _ V λr hr=>⟨[‹.tup r›,‹.int e›],rfl,rfl,?_⟩
  simp! only[jK];rfl
 have c9:∀a0 a1 a2 a6 a7 a8 a9:Option S,gz [none,some 4,some 5] (bi (ah 3)) (gN 0) (cF) (f2 bS (bM (ah 0) (bz) (cC (ah 1))) (bM (ah 0) (cC (ah 2)) (bz))) [a0,a1,a2,‹.tup (V.map .tup)›,‹.int m›,‹.int e›,a6,a7,a8,a9]=.ok (.lst ((V.map λr=>r.take m++r.drop e).map .tup)):=λa0 a1 a2 a6 a7 a8 a9=>by
  refine dR (ds:=V.map .tup) (by simp! only[]) (by rw[O0];omega) ?_;rw[QE];refine ju D.tup _ V λr hr=>⟨[‹.tup r›,‹.int m›,‹.int e›],rfl,rfl,?_⟩
  have ad:=fe (r.take m) (r.drop e) (by rw[O8,Pm];have:=vl r hr;omega);simp! only[jK,tQ,ad];rfl
 rw[tL];unfold bf;generalize fX (ak m [])=Z at b;have c7:∀a0 a1 a3 a4 a5 a7 a8 a9:Option S,gz [none,some 4,some 6] (bi (f2 aD (ah 2) (fC (.int 0)))) (gN 0) (fB (f2 gL (bM (ah 0) (bz) (cC (ah 1))) (ah 2))) (ah 0) [a0,a1,‹.tup [.tup [],.tup []]›,a3,a4,a5,‹Z›,a7,a8,a9]=.ok (.lst []):=λ_ _ _ _ _ _ _ _=>rfl;generalize (V.map λr=>r.take m++r.drop e).map D.tup=W2 at c9 s2 ⊢;generalize (V.map (·.take e)).map D.tup=W1 at c8 s1 ⊢;simp! only[t0,t1,O0,hk,he',b,c7,c8,s1,c9,s2,qb]
def K7{A B:List (List D)}(hA:Tb τ m A)(hB:Tb τ m B)(ab:∀r∈A,r.take m∈B.map λr=>r.take m)(o q2:D){k:KL}{r:List (Str×D)}(hk:k.length=m):
  aN bf 4 10 [o,.tup [fr k r,q2],.tup [.tup (A.map .tup),.tup (B.map .tup)],.tup []]=.ok (.tup [.tup [],.tup (B.map .tup)]):=by
 have b:=AQ hB.s (.tup (B.map .tup)) (.inr rfl);have ni:=λr (hr:r∈A)=>D8 hB.s (hA.s.sh r hr);have ln:=hA.s.ln;have s1:=G3 hA.nil (.lst []) (.inl rfl);have s2:=Md hB (.tup (B.map .tup)) (.inr rfl);generalize fX (ak m B)=Z at b ni;have c7:∀a0 a1 a3 a5 a7 a8 a9:Option S,gz [none,some 4,some 6] (bi (f2 aD (ah 2) (fC (.int 0)))) (gN 0) (fB (f2 gL (bM (ah 0) (bz) (cC (ah 1))) (ah 2))) (ah 0) [a0,a1,‹.tup [.tup (A.map .tup),.tup (B.map .tup)]›,a3,‹.int m›,a5,‹Z›,a7,a8,a9]=.ok (.lst []):=λ_ _ _ _ _ _ _=>by
  refine dR (ds:=A.map .tup) (by simp! only[]) (by rw[O0];omega) ?_
  have:=p4 (ρ:=[none,‹.int m›,‹Z›]) (g:=gN 0) (C:=fB (f2 gL (bM (ah 0) (bz) (cC (ah 1))) (ah 2))) (Fe:=ah 0) D.tup (λ_=>false) D.tup A λr hr=>⟨[‹.tup r›,‹.int m›,‹Z›],rfl,by
   have:=ni r hr
   rw[decide_eq_true (ab r hr)]at this;simp! only[jK,this],λz=>by cases z⟩
  rw[List.filter_eq_nil_iff.mpr λ_ _=>OX]at this;exact this
 have c8:∀a0 a1 a2 a4 a5 a6 a7 a8 a9:Option S,gz [none,some 5] (bi (ah 3)) (gN 0) (cF) (bM (ah 0) (bz) (cC (ah 1))) [a0,a1,a2,‹.tup []›,a4,a5,a6,a7,a8,a9]=.ok (.lst []):=λ_ _ _ _ _ _ _ _ _=>rfl;have c9:∀a0 a1 a2 a4 a5 a6 a7 a8 a9:Option S,gz [none,some 4,some 5] (bi (ah 3)) (gN 0) (cF) (f2 bS (bM (ah 0) (bz) (cC (ah 1))) (bM (ah 0) (cC (ah 2)) (bz))) [a0,a1,a2,‹.tup []›,a4,a5,a6,a7,a8,a9]=.ok (.lst []):=λ_ _ _ _ _ _ _ _ _=>rfl;have s1:aN dP 3 4 [.int m,.lst [],.lst []]=.ok (.tup []):=s1;rw[tL];unfold bf;simp! only[t0,t1,O0,hk,b,c7,c8,s1,c9,s2,qb]
end
def El{α:Type}(xs:List α):Ac [.lst (xs.map λ_=>.bl true)]=some (.bl true):=by
 have e:Ac [.lst ((xs.map λ_=>true).map .bl)]=(allB ((xs.map λ_=>true).map .bl)).bind λb=>some (D.bl b):=rfl;rw[QE]at e;refine e.trans ?_;have e2:((xs.map λ_=>true).all id)=true:=by rw[List.all_eq_true];intro x hx;obtain⟨_,_,rfl⟩:=List.mem_map.mp hx;rfl
 have e3:=AU (xs.map λ_=>true);rw[QE,e2]at e3;rw[e3];rfl
def GL{r:List D}{m:Nat}{d:D}(hl:r.length=m+1)(h:r[m]?=some d):aD (.tup r) (.int (-1))=some d:=by
 rw[JP];have e:r=r.take m++[r[m]]:=by
  conv=>lhs;rw[<-List.take_append_drop m r]
  congr 1;rw[Qb ‹0›,QQ ‹0›]
 rw[PX ‹0›]at h;rw[e,En];exact h
def Ft(g:Nat)(c:Kd)(v:D)(h:c.has v):cP (g+1) [c.d,v]=.ok (.bl true):=by
 rw[nu,eW];unfold wJ;cases c with
 |num lo hi=>
  obtain⟨i,rfl,h1,h2⟩:=h;have t1:mM "int" (.int i)=some (.bl true):=rfl;have t2:mM "bool" (.int i)=some (.bl false):=rfl;have wh:aN fZ 1 1 [.int i]=.ok (.bl true):=by
   rw[mQ];unfold fZ;simp! only[t1,t2,Q4]
  simp! only[Kd.d,wx,wh,decide_eq_true h1,decide_eq_true h2,Q4]
 |wrd ws=>
  obtain⟨w,rfl,hw⟩:=h;have t1:mM "str" (.str w)=some (.bl true):=rfl;have e:ws.contains w=true:=by simpa using hw
  simp! only[Kd.d,xc,wR,t1,wN,e,Q4]
def AZ:∀(k:KL)(vs:List D),qa k vs->kE (k.map (·.2.d)) vs=(k.zip vs).map λz=>.tup [z.1.2.d,z.2]
 |[],[],_=>rfl
 |_::k,_::vs,h=>by
  rw[OZ,Qq,OZ,<-AZ k vs h.2];rfl
def Aw:∀{k:KL}{vs:List D},qa k vs->∀z∈k.zip vs,z.1.2.has z.2
 |_::_,_::_,h,z,hz=>by
  rw[Qq]at hz;rcases List.mem_cons.mp hz with e|e
  ·rw[e];exact h.1
  ·exact Aw h.2 z e
def HU(g:Nat){k:KL}{vs:List D}(h:qa k vs)(k8:k.length<=8):bD (g+2) [.lst (k.map (·.2.d)),.tup vs]=.ok (.bl true):=by
 have ze:uT [.lst (k.map (·.2.d)),.tup vs]=some ((k.zip vs).map λz=>.tup [z.1.2.d,z.2]):=by
  show some (kE _ _)=_;rw[AZ k vs h]
 have t1:mM "tuple" (.tup vs)=some (.bl true):=rfl;have hp:aN eS 2 2 [.tup vs,.int k.length]=.ok (.bl true):=by
  rw[eW];unfold eS;simp! only[t1,h.length,beq_self_eq_true,Q4]
 have lc:∀a b:Option S,gz [none,none] (sR (af (ah 0) (af (ah 1) (aq)))) (gT 2 (kI [0,1])) (cF) (fR (cP (g+1)) (af (ah 0) (af (ah 1) (aq)))) [‹.lst (k.map (·.2.d))›,‹.tup vs›]=.ok (.lst ((k.zip vs).map λ_=>.bl true)):=λ_ _=>by
  refine dR (ds:=(k.zip vs).map λz=>.tup [z.1.2.d,z.2]) (by simp! only[ze]) (by rw[O0,List.length_zip];omega) ?_;refine ju (λz:(Str×Kd)×D=>D.tup [z.1.2.d,z.2]) _ (k.zip vs) λz hz=>⟨[‹z.1.2.d›,‹z.2›],rfl,rfl,?_⟩
  have:=Ft g z.1.2 z.2 (Aw h z hz)
  simp! only[this]
 have lc:=lc none none;have al:=El (k.zip vs);rw[kB,eW];unfold pK;simp! only[O0,hp,lc,al]
def Fu{i:Nat}{f:FX}(K:Ks)(ρ:ay){xs:List D}(h:ρ[i]?=some (some (.own (.lst xs))))(l:xs.length<=100000)(e:f ρ=.ok (.lst [])):CD i f K ρ=K.nx (ρ.set i (some (.own (.lst xs)))):=by
 unfold CD;rw[h];show su (f ρ) K ρ _=_;rw[e];show(if small (xs.length+0)then K.nx (ρ.set i (some (.own (.lst (xs++[])))))else un)=_;rw[Nat.add_zero,if_pos (fg l),O5]
section
open Classical
variable{τ:List Bool}{L:List ZP}{t:KL}{r q:List (Str×D)}
def A4(ok:Ok L)(l8:L.length<=8){A:List (List D)}(hA:∀a∈A,qa (bk L) (a.take L.length))(al:A.length<64)(b:Bool):aN eT 3 5 [.tup [fr (k1 L) r,fr (k2 L++t) q],.tup (A.map .tup),.bl b]=.ok (.lst (if b then A.map .tup else[])):=by
 have sk:=C0 ok l8;have ct:cutD ((k2 L++t).map kf) none (some (L.length:Int))=(k2 L).map kf:=by
  rw[jK,P7,List.take_left' (by rw[O0,O0])]
 have bl:(bk L).length=L.length:=by unfold bk;rw[O0]
 have kd:∀a0 a1 a2 a4:Option S,gz [none] (bi (ah 3)) (gN 0) (cF) (f2 aD (ah 0) (fC (.int 1))) [a0,a1,a2,‹.tup ((bk L).map kf)›,a4]=.ok (.lst ((bk L).map (·.2.d))):=λa0 a1 a2 a4=>
  BG kf (·.2.d) (bk L) _ _ _ (by simp! only[]) ‹0› λz _=>rfl
 have lc:∀a0 a3:Option S,gz [none,some 4,some 2] (bi (ah 1)) (gN 0) (fB (f2 kH (fR (bD 12) (af (ah 1) (af (bM (ah 0) (bz) (cC (fL gD (af (ah 1) (aq))))) (aq)))) (ah 2))) (ah 0) [a0,‹.tup (A.map .tup)›,‹.bl b›,a3,‹.lst ((bk L).map (·.2.d))›]=.ok (.lst (if b then A.map .tup else[])):=λa0 a3=>by
  refine dR (ds:=A.map .tup) (by simp! only[]) (by rw[O0];omega) ?_
  have:=p4 (ρ:=[none,‹.lst ((bk L).map (·.2.d))›,‹.bl b›]) (g:=gN 0) (C:=fB (f2 kH (fR (bD 12) (af (ah 1) (af (bM (ah 0) (bz) (cC (fL gD (af (ah 1) (aq))))) (aq)))) (ah 2))) (Fe:=ah 0) D.tup (λ_=>b) D.tup A λa ha=>⟨[‹.tup a›,‹.lst ((bk L).map (·.2.d))›,‹.bl b›],rfl,by
   have:=HU 10 (hA a ha) ‹0›
   have tb:((true==b))=b:=(by cases b<;>rfl);generalize hK:(bk L).map (·.2.d)=K at this ⊢;have kl:K.length=L.length:=(by rw[<-hK,O0,bl]);simp! only[kl,jK,this,tb],λ_=>rfl⟩
  cases b with
  |true=>rw[List.filter_eq_self.mpr λ_ _=>rfl]at this;exact this
  |false=>rw[List.filter_eq_nil_iff.mpr λ_ _=>OX]at this;exact this
 generalize (if b then A.map D.tup else[])=W at lc ⊢;rw[mq];unfold eT;simp! only[t0,t1,O0,ct,sk,kd,lc]
def Jv(xs:List D):vv [.tup xs]=some (.lst xs):=nr rfl
abbrev vu(u:List D):List D:=u++[.tup []]
def Jp(o:D)(ok:Ok L)(l8:L.length<=8){U A O P:List (List D)}(hU:Tb τ L.length U)(ul:∀u∈U,L.length<=u.length/\u.length<=100)(s:So τ L.length (U.map vu++A))(hA:∀a∈A,qa (bk L) (a.take L.length))(hO:∀r∈O,Sh τ (r.take L.length))(ol:O.length<64)(hP:P=O.filter λr=>!decide (r.take L.length∈(U.map vu++A).map λr=>r.take L.length)){τ':List Bool}(tP:Tb τ' (L.length+t.length) P):
  aN aR 4 9 [o,.tup [fr (k1 L) r,fr (k2 L++t) q],.tup [.tup (A.map .tup),.tup (O.map .tup)],.tup ((U.map vu).map .tup)]=.ok (.tup [.tup (U.map .tup),.tup (P.map .tup)]):=by
 have sl:=s.ln;rw[Pk,O0]at sl;have n0:aN eT 3 5 [.tup [fr (k1 L) r,fr (k2 L++t) q],.tup (A.map .tup),.bl false]=.ok (.lst []):=A4 ok l8 hA ‹0› false;have n1:aN eT 3 5 [.tup [fr (k1 L) r,fr (k2 L++t) q],.tup (A.map .tup),.bl true]=.ok (.lst (A.map .tup)):=A4 ok l8 hA ‹0› true;have st:=G3 hU (.lst []) (.inl rfl);have b:=AQ s (.lst ((U.map vu++A).map .tup)) (.inl rfl);have ni:=λr (hr:r∈O)=>D8 s (hO r hr);have sb:=FL tP;have ad:=t6 ((U.map vu).map .tup) (A.map .tup) (by rw[O0,O0,O0];omega);rw[<-P7]at ad;have c5:∀a0 a1 a2 a4 a5 a6 a7 a8:Option S,gz [none] (bi (ah 3)) (gN 0) (cF) (bM (ah 0) (bz) (cC (uQ (fC (.int 1))))) [a0,a1,a2,‹.tup ((U.map vu).map .tup)›,a4,a5,a6,a7,a8]=.ok (.lst (U.map .tup)):=λ_ _ _ _ _ _ _ _=>
  BG (λu=>D.tup (vu u)) D.tup U _ _ _ (by simp! only[];rw[QE];rfl) ‹0› λu _=>by
   have:=EH u (.tup [])
   simp! only[vu,this]
 generalize fX (ak L.length (U.map vu++A))=Z at b ni;have c7:∀a0 a1 a3 a5 a7 a8:Option S,gz [none,some 4,some 6] (bi (f2 aD (ah 2) (fC (.int 1)))) (gN 0) (fB (f2 gL (bM (ah 0) (bz) (cC (ah 1))) (ah 2))) (ah 0) [a0,a1,‹.tup [.tup (A.map .tup),.tup (O.map .tup)]›,a3,‹.int L.length›,a5,‹Z›,a7,a8]=.ok (.lst (P.map .tup)):=λ_ _ _ _ _ _=>by
  refine dR (ds:=O.map .tup) (by simp! only[]) (by rw[O0];omega) ?_;rw[hP];refine p4 (ρ:=[none,‹.int L.length›,‹Z›]) (g:=gN 0) (C:=fB (f2 gL (bM (ah 0) (bz) (cC (ah 1))) (ah 2))) (Fe:=ah 0) D.tup (λr=>!decide (r.take L.length∈(U.map vu++A).map λr=>r.take L.length)) D.tup O λr hr=>⟨[‹.tup r›,‹.int L.length›,‹Z›],rfl,?_,λ_=>rfl⟩
  have:=ni r hr
  simp! only[jK,this]
 have pl:=tP.s.ln;have kl:(k2 L++t).length=L.length+t.length:=by rw[Pk,O0]
 have sb:aN dI 2 2 [.int ((L.length+t.length:Nat):Int),.lst (P.map .tup)]=.ok (.tup (P.map .tup)):=sb;obtain⟨T,hT⟩:∃T:cK,T=(fY 7 (bL (aL (af (ah 5) (af (fR (aN dI 2 2) (af (fL gD (af (f2 aD (f2 aD (ah 1) (fC (.int 1))) (fC (.int 0))) (aq))) (af (ah 7) (aq)))) (aq)))))):=⟨_,rfl⟩
 rw[tL];unfold aR;rw[<-hT];have kL:(k1 L).length=L.length:=O0 _;generalize hF1:fr (k1 L) r=F1 at n0 n1 ⊢;have f1:aD F1 (.int 0)=some (.tup ((k1 L).map kf)):=by rw[<-hF1];rfl
 generalize hF2:fr (k2 L++t) q=F2 at n0 n1 ⊢;have f2':aD F2 (.int 0)=some (.tup ((k2 L++t).map kf)):=by rw[<-hF2];rfl
 simp! only[t0,t1,f1,O0,c5,n0,st,Jv,n1,ad,b,c7];refine fS (Q:=λz=>z=.ok (.tup [.tup (U.map .tup),.tup (P.map .tup)])) (λi ρ=>ρ=[none,‹.tup [F1,F2]›,none,‹.tup ((U.map vu).map .tup)›,‹.int L.length›,‹.tup (U.map .tup)›,none,some (.own (.lst (P.map .tup))),none]) ?_ rfl ?_
 ·rintro i d ρ kk hd rfl;have hi:=cW hd;rw[O0,O0]at hi;rw[Ph,Ph,PX hi]at hd;cases hd;refine⟨_,_,rfl,rfl,?_⟩;have ix:aD (.tup (vu U[i])) (.int (-1))=some (.tup []):=by
   refine GL (m:=U[i].length) (by rw[Pk,Pq]) ?_;rw[O9 (OT _),Qr];rfl
  have le:∀a0 a1 a2 a3 a5 a6 a7:Option S,gz [none,some 8,some 4] (bi (f2 aD (ah 8) (uQ (fC (.int 1))))) (gN 0) (cF) (f2 bS (bM (ah 1) (bz) (cC (ah 2))) (ah 0)) [a0,a1,a2,a3,‹.int L.length›,a5,a6,a7,‹.tup (vu U[i])›]=.ok (.lst []):=λ_ _ _ _ _ _ _=>
   dR (ds:=[]) (by simp! only[ix]) (by decide) rfl
  have sx:=λ(K:Ks)(ρ:ay)(h:ρ[7]?=some (some (.own (.lst (P.map .tup)))))=>Fu (i:=7) (f:=gz [none,some 8,some 4] (bi (f2 aD (ah 8) (uQ (fC (.int 1))))) (gN 0) (cF) (f2 bS (bM (ah 1) (bz) (cC (ah 2))) (ah 0))) K ρ h (by rw[O0];omega);have sx:=λK:Ks=>sx K [none,‹.tup [F1,F2]›,none,‹.tup ((U.map vu).map .tup)›,‹.int L.length›,‹.tup (U.map .tup)›,none,some (.own (.lst (P.map .tup))),‹.tup (vu U[i])›] rfl (le _ _ _ _ _ _ _);simp! only[sx]
 ·rintro ρ' rfl;rw[hT];simp! only[t0,t1,f2',O0,kl,sb,qb]
end
noncomputable abbrev PT:List (Str×(List D->R D)):=[("Pair",(aN bG 4 4)),("Join",(aN bf 4 10)),("Gather",(aN aR 4 9))]
abbrev jn:D:=.obj "Join" [] []
abbrev JZ(nm:Str):D:=.obj "Gather" ["name"] [.str nm]
def mJ{fo:FX}{fas:ay->R (List D)}{ρ:ay}{as:List D}(h:fo ρ=.ok jn)(ha:fas ρ=.ok as):dN "put" PT fo fas ρ=aN bf 4 10 (jn::as):=by
 unfold dN;rw[h,fj];have h1:(("Join":Str)==("Pair":Str))=false:=by decide +kernel
 have hm:([]:List Str).contains "put"=false:=rfl
 have:List.lookup ("Join":Str) PT=some (aN bf 4 10):=by
  rw[PC,h1,PC,BEq.rfl]
 simp only[this,hm,ha,fj];rfl
def mG{nm:Str}{fo:FX}{fas:ay->R (List D)}{ρ:ay}{as:List D}(h:fo ρ=.ok (JZ nm))(ha:fas ρ=.ok as):dN "put" PT fo fas ρ=aN aR 4 9 (JZ nm::as):=by
 unfold dN;rw[h,fj];have h1:(("Gather":Str)==("Pair":Str))=false:=by decide +kernel
 have h2:(("Gather":Str)==("Join":Str))=false:=by decide +kernel
 have hm:(["name"]:List Str).contains "put"=false:=by decide +kernel
 have:List.lookup ("Gather":Str) PT=some (aN aR 4 9):=by
  rw[PC,h1,PC,h2,PC,BEq.rfl]
 simp only[this,hm,ha,fj];rfl
section
open Classical
variable{L:List ZP}{r q:List (Str×D)}{n:Nat}
def sd{V:List (List D)}(vl:V.length<64)(h:∀a∈V,a.length<=100/\∀v∈a,AL 4 v):AL 7 (.tup [.tup [],.tup (V.map .tup)]):=
 AL.tup (by simp) λx hx=>by
  rcases List.mem_cons.mp hx with e|e
  ·rw[e];exact AL.tup (by simp) (λ_ h=>nomatch h)
  ·rw[List.mem_singleton.mp e];refine AL.tup (by rw[O0];omega) λy hy=>?_;obtain⟨a,ha,rfl⟩:=List.mem_map.mp hy;exact AL.tup (by have:=(h a ha).1;omega) (h a ha).2
def τ_ne(l1:1<=L.length):(bk L).map (·.2.b)≠[]:=λz=>by
 have:=congrArg List.length z
 unfold bk at this;rw[O0,O0,Px]at this;omega
def wC(ns:List Int)(l1:1<=L.length)(l8:L.length<=8)(s8:r.length+q.length<=8)(ok:Ok L)(n2:n<=2)(hr:∀f∈r,KG n f.2)(hq:∀f∈q,KG n f.2):
  aN dC 3 10 [fr (k1 L) r,fr (k2 L) q,.lst (ns.map .int)]=.ok (.bl true):=by
 have bl:(bk L).length=L.length:=by unfold bk;rw[O0]
 have kb:=yi ok l8 [] (.tup (r.map fld)) (.tup (q.map fld));rw[O5]at kb;have kb:aN ce 2 5 [fr (k1 L) r,fr (k2 L) q]=.ok (.tup ((bk L).map kf)):=kb;have a1:=fe ((bk L).map kf) (r.map fld) (by rw[O0,O0];omega);have a2:=fe ((bk L).map kf++r.map fld) (q.map fld) (by rw[Pk,O0,O0,O0];omega);obtain⟨V,ev,ri,vl,hv⟩:=AD n n2 (bk L) (r++q) ‹0› ‹0› (by rw[Pk];omega) (Hi ok) (λf hf=>(List.mem_append.mp hf).elim (hr f) (hq f)) ((bk L).map kf++r.map fld++q.map fld) (by rw[P7,P7,<-xB,Qd]) ns;rw[bl]at ev ri hv;rw[Pk]at hv;have tb:Tb ((bk L).map (·.2.b)) L.length V:=Tb.of (τ_ne l1) (by rw[O0,bl]) (λa ha=>(hv a ha).2.1.sh) ri ‹0›;have wl:∀a∈V,L.length<=a.length/\a.length<=100:=λa ha=>by have:=(hv a ha).1;omega
 obtain⟨e,he⟩:∃e,L.length+r.length=e:=⟨_,rfl⟩
 have j1:=λo=>HC tb wl o (fr (k2 L) q) (k:=k1 L) (r:=r) (O0 _) he;have j3:=λo=>HC tb.nil (e:=e) (λ_ h=>nomatch h) o (fr (k2 L) q) (k:=k1 L) (r:=r) (O0 _) he;have tA:=tb.map (·.take e) λa _=>by rw[Q2,QM ‹0›]
 have gk:∀a∈V,(a.take L.length++a.drop e).take L.length=a.take L.length:=λa ha=>by rw[Q3 (by rw[O8];have:=wl a ha;omega),Q2,PY]
 have tB:=tb.map (λa=>a.take L.length++a.drop e) gk;have j2:=λo=>K7 tA tB (λa ha=>by
  obtain⟨v,hv,rfl⟩:=List.mem_map.mp ha;refine List.mem_map.mpr ⟨_,List.mem_map.mpr ⟨v,hv,rfl⟩,?_⟩;rw[gk v hv,Q2,QM ‹0›]) o (fr (k2 L) q) (k:=k1 L) (r:=r) (O0 _)
 have he':(L.length:Int)+(r.length:Int)=((e:Nat):Int):=by omega
 have c9:∀a0 a1 a2 a6 a7 a8 a9:Option S,gz [none,some 3,some 4] (bi (ah 5)) (gN 0) (cF) (f2 bS (bM (ah 0) (bz) (cC (ah 1))) (bM (ah 0) (cC (ah 2)) (bz))) [a0,a1,a2,‹.int L.length›,‹.int e›,‹.tup (V.map .tup)›,a6,a7,a8,a9]=.ok (.lst ((V.map λa=>a.take L.length++a.drop e).map .tup)):=λa0 a1 a2 a6 a7 a8 a9=>by
  refine dR (ds:=V.map .tup) (by simp! only[]) (by rw[O0];omega) ?_;rw[QE];refine ju D.tup _ V λa ha=>⟨[‹.tup a›,‹.int L.length›,‹.int e›],rfl,rfl,?_⟩
  have ad:=fe (a.take L.length) (a.drop e) (by rw[O8,Pm];have:=wl a ha;omega);simp! only[jK,tQ,ad];rfl
 have al1:=lX 7 12 _ (by decide) (sd (V:=V.map λa=>a.take L.length++a.drop e) (by rw[O0];omega) λa ha=>by
  obtain⟨v,hv',rfl⟩:=List.mem_map.mp ha;refine⟨by rw[Pk,O8,Pm];have:=wl v hv';omega,λx hx=>?_⟩;rcases List.mem_append.mp hx with z|z
  ·exact(hv v hv').2.2 x (List.mem_of_mem_take z)
  ·exact(hv v hv').2.2 x (List.mem_of_mem_drop z))
 have al2:=lX 7 12 _ (by decide) (sd (V:=[]) (by decide) (λ_ h=>nomatch h));have j3:∀o,aN bf 4 10 [o,.tup [fr (k1 L) r,fr (k2 L) q],.tup [.tup [],.tup []],.tup []]=.ok (.tup [.tup [],.tup []]):=j3;have al2:aM 12 [.tup [.tup [],.tup []],.tup [.tup [],.tup []]]=.ok (.bl true):=al2;have i0:aD (fr (k1 L) r) (.int 0)=some (.tup ((k1 L).map kf)):=rfl;have i1:aD (fr (k1 L) r) (.int 1)=some (.tup (r.map fld)):=rfl;have i2:aD (fr (k2 L) q) (.int 1)=some (.tup (q.map fld)):=rfl;have kL:(k1 L).length=L.length:=O0 _;generalize hF1:fr (k1 L) r=F1 at *;generalize hF2:fr (k2 L) q=F2 at *;generalize (V.map λa=>a.take L.length++a.drop e).map D.tup=W2 at *;generalize (V.map (·.take e)).map D.tup=W1 at *;have m7:∀a2 a3 a4 a7 a8 a9:Option S,dN "put" PT (ah 6) (af (aL (af (ah 0) (af (ah 1) (aq)))) (af (aL (af (aL (aq)) (af (aL (aq)) (aq)))) (af (ah 5) (aq)))) [‹F1›,‹F2›,a2,a3,a4,‹.tup (V.map .tup)›,‹jn›,a7,a8,a9]=.ok (.tup [.tup W1,.tup W2]):=λ_ _ _ _ _ _=>(mJ rfl (by simp! only[qb,Fh])).trans (j1 jn);have m8:∀a2 a3 a4 a5 a8 a9:Option S,dN "put" PT (ah 6) (af (aL (af (ah 0) (af (ah 1) (aq)))) (af (ah 7) (af (aL (aq)) (aq)))) [‹F1›,‹F2›,a2,a3,a4,a5,‹jn›,‹.tup [.tup W1,.tup W2]›,a8,a9]=.ok (.tup [.tup [],.tup W2]):=λ_ _ _ _ _ _=>(mJ rfl (by simp! only[qb,Fh])).trans (j2 jn);have m9:∀a2 a3 a4 a5 a7 a8 a9:Option S,dN "put" PT (ah 6) (af (aL (af (ah 0) (af (ah 1) (aq)))) (af (aL (af (aL (aq)) (af (aL (aq)) (aq)))) (af (aL (aq)) (aq)))) [‹F1›,‹F2›,a2,a3,a4,a5,‹jn›,a7,a8,a9]=.ok (.tup [.tup [],.tup []]):=λ_ _ _ _ _ _ _=>(mJ rfl (by simp! only[qb,Fh])).trans (j3 jn);rw[mq];unfold dC;simp! only[i0,i1,i2,O0,kL,he',kb,a1,a2,ev,m7,m8,c9,qb,Fh,al1,m9,al2,Q4]
end
section
open Classical
variable{L:List ZP}{t:KL}{r q:List (Str×D)}{n:Nat}{b:Int}
def Gx(c:Str)(a:Str)(fas:ay->R (List D))(ρ:ay):fNew c [a] fas ρ=(fas ρ).bind λas=>if as.length=1 then .ok (.obj c [a] as)else un:=nr rfl
def end_is(g:Gd b L t r q n){τ':List Bool}{O U:List (List D)}(tO:Tb τ' (L.length+t.length) O)(fO:∀a∈O,qa (bk L) (a.take L.length))(oa:∀a∈O,a.length<=100/\∀v∈a,AL 4 v)(tU:Tb ((bk L).map (·.2.b)) L.length U)(fU:∀u∈U,qa (bk L) (u.take L.length))(ul:∀u∈U,L.length<=u.length/\u.length<=100)(kO:∀a∈O,∃u∈U,u.take L.length=a.take L.length)(nm:Str)(a7:Option S)(a8:Option S):
  ∃F:cK,F=(aG (bg 12 (fNew "Gather" ["name"] (af (ah 2) (aq)))) (fY 10 (aG (bg 13 (dN "put" [("Pair",(aN bG 4 4)),("Join",(aN bf 4 10)),("Gather",(aN aR 4 9))] (ah 12) (af (aL (af (ah 0) (af (ah 1) (aq)))) (af (aL (af (aL (aq)) (af (ah 6) (aq)))) (af (fL cu (af (ah 10) (aq))) (aq)))))) (aG (bg 14 (dN "put" [("Pair",(aN bG 4 4)),("Join",(aN bf 4 10)),("Gather",(aN aR 4 9))] (ah 12) (af (aL (af (ah 0) (af (ah 1) (aq)))) (af (ah 13) (af (aL (aq)) (aq)))))) (aG (bg 15 (dN "put" [("Pair",(aN bG 4 4)),("Join",(aN bf 4 10)),("Gather",(aN aR 4 9))] (ah 12) (af (aL (af (ah 0) (af (ah 1) (aq)))) (af (aL (af (aL (aq)) (af (ah 6) (aq)))) (af (aL (aq)) (aq)))))) (bL (iz (fR (aM 12) (af (ah 14) (af (aL (af (aL (aq)) (af (aL (aq)) (aq)))) (aq)))) (fR (aM 12) (af (ah 15) (af (aL (af (aL (aq)) (af (ah 6) (aq)))) (aq)))))))))))/\F K0 [‹fr (k1 L) r›,‹fr (k2 L++t) q›,‹.str nm›,none,none,none,‹.tup (O.map .tup)›,a7,a8,none,some (.own (.lst ((U.map vu).map .tup))),none,none,none,none,none]=.ok (.bl true):=by
 refine⟨_,rfl,?_⟩;have l8:=g.l8;have ul':=tU.s.ln;have vk:∀u∈U,(vu u).take L.length=u.take L.length:=λu hu=>Q3 (ul u hu).1;have tV:=tU.map vu vk;have p1:=λo=>Jp (r:=r) (q:=q) (t:=t) (A:=[]) (O:=O) (P:=[]) o g.ok ‹0› tU ul (by rw[O5];exact tV.s) (λ_ h=>nomatch h) (λa ha=>(fO a ha).sh) tO.s.ln (List.filter_eq_nil_iff.mpr λa ha z=>by
  obtain⟨u,hu,e⟩:=kO a ha
  have:a.take L.length∈(U.map vu++[]).map λr:List D=>r.take L.length:=by
   rw[O5];exact List.mem_map.mpr ⟨_,List.mem_map.mpr ⟨u,hu,rfl⟩,by rw[vk u hu,e]⟩
  rw[decide_eq_true this]at z;cases z).symm tO.nil
 have p2:=λo=>Jp (r:=r) (q:=q) (t:=t) (U:=[]) (A:=U) (O:=[]) (P:=[]) o g.ok ‹0› tU.nil (λ_ h=>nomatch h) tU.s fU (λ_ h=>nomatch h) (by decide) rfl tO.nil;have p3:=λo=>Jp (τ:=(bk L).map (·.2.b)) (r:=r) (q:=q) (t:=t) (U:=[]) (A:=[]) (O:=O) (P:=O) o g.ok ‹0› tU.nil (λ_ h=>nomatch h) tU.nil.s (λ_ h=>nomatch h) (λa ha=>(fO a ha).sh) tO.s.ln (List.filter_eq_self.mpr λ_ _=>by simp).symm tO;have p1:∀o,aN aR 4 9 [o,.tup [fr (k1 L) r,fr (k2 L++t) q],.tup [.tup [],.tup (O.map .tup)],.tup ((U.map vu).map .tup)]=.ok (.tup [.tup (U.map .tup),.tup []]):=p1;have p2:∀o,aN aR 4 9 [o,.tup [fr (k1 L) r,fr (k2 L++t) q],.tup [.tup (U.map .tup),.tup []],.tup []]=.ok (.tup [.tup [],.tup []]):=p2;have p3:∀o,aN aR 4 9 [o,.tup [fr (k1 L) r,fr (k2 L++t) q],.tup [.tup [],.tup (O.map .tup)],.tup []]=.ok (.tup [.tup [],.tup (O.map .tup)]):=p3;have al1:aM 12 [.tup [.tup [],.tup []],.tup [.tup [],.tup []]]=.ok (.bl true):=lX 7 12 _ (by decide) (sd (V:=[]) (by decide) (λ_ h=>nomatch h));have al2:=lX 7 12 _ (by decide) (sd tO.s.ln oa);generalize fr (k1 L) r=F1 at *;generalize fr (k2 L++t) q=F2 at *;generalize (U.map vu).map D.tup=WV at *;generalize U.map D.tup=WU at *;generalize O.map D.tup=WO at *;have m13:∀a2 a3 a4 a5 a7 a8 a9 a11 a13 a14 a15:Option S,dN "put" PT (ah 12) (af (aL (af (ah 0) (af (ah 1) (aq)))) (af (aL (af (aL (aq)) (af (ah 6) (aq)))) (af (fL cu (af (ah 10) (aq))) (aq)))) [‹F1›,‹F2›,a2,a3,a4,a5,‹.tup WO›,a7,a8,a9,‹.lst WV›,a11,‹JZ nm›,a13,a14,a15]=.ok (.tup [.tup WU,.tup []]):=λ_ _ _ _ _ _ _ _ _ _ _=>(mG rfl (by simp! only[qb,Fh])).trans (p1 _);have m14:∀a2 a3 a4 a5 a6 a7 a8 a9 a10 a11 a14 a15:Option S,dN "put" PT (ah 12) (af (aL (af (ah 0) (af (ah 1) (aq)))) (af (ah 13) (af (aL (aq)) (aq)))) [‹F1›,‹F2›,a2,a3,a4,a5,a6,a7,a8,a9,a10,a11,‹JZ nm›,‹.tup [.tup WU,.tup []]›,a14,a15]=.ok (.tup [.tup [],.tup []]):=λ_ _ _ _ _ _ _ _ _ _ _ _=>(mG rfl (by simp! only[qb,Fh])).trans (p2 _);have m15:∀a2 a3 a4 a5 a7 a8 a9 a10 a11 a13 a14 a15:Option S,dN "put" PT (ah 12) (af (aL (af (ah 0) (af (ah 1) (aq)))) (af (aL (af (aL (aq)) (af (ah 6) (aq)))) (af (aL (aq)) (aq)))) [‹F1›,‹F2›,a2,a3,a4,a5,‹.tup WO›,a7,a8,a9,a10,a11,‹JZ nm›,a13,a14,a15]=.ok (.tup [.tup [],.tup WO]):=λ_ _ _ _ _ _ _ _ _ _ _ _=>(mG rfl (by simp! only[qb,Fh])).trans (p3 _);simp! only[Gx,m13,m14,m15,qb,Fh,al1,al2,Q4]
end
section
open Classical
variable{L:List ZP}{t:KL}{r q:List (Str×D)}{n:Nat}{b:Int}
def Je(g:Gd b L t r q n){τ':List Bool}{O:List (List D)}(tO:Tb τ' (L.length+t.length) O)(fO:∀a∈O,qa (bk L) (a.take L.length))(oa:∀a∈O,a.length<=100/\∀v∈a,AL 4 v)(nm:Str){al:List (List Key×D)}(nd:(al.map (·.1)).Nodup)(ll:al.length<=O.length)(hp:∀p∈al,∃a∈O,a.take L.length=p.1.map bQ)(hc:∀a∈O,∃k∈al.map (·.1),k.map bQ=a.take L.length)(x:Int)(x0:0<=x)(x1:x<2147483700):
  ∃F:cK,F=(aG (jU 10 (gE (aq))) (fY 8 (eD [3,4,5,9] (aG (ku (bi (fL eU (af (fL lV (af (ah 8) (aq))) (aq)))) (gN 11) (aG (bg 7 (fR (aN aJ 1 1) (af (ah 7) (aq)))) (aG (yA 10 gh (af (f2 bS (f2 bS (ah 11) (fR (aN cD 2 2) (af (f2 aD (ah 0) (fC (.int 1))) (af (ah 7) (aq))))) (aL (af (aL (aq)) (aq)))) (aq))) (eD [11] cU)))) (aG (bg 12 (fNew "Gather" ["name"] (af (ah 2) (aq)))) (fY 10 (aG (bg 13 (dN "put" [("Pair",(aN bG 4 4)),("Join",(aN bf 4 10)),("Gather",(aN aR 4 9))] (ah 12) (af (aL (af (ah 0) (af (ah 1) (aq)))) (af (aL (af (aL (aq)) (af (ah 6) (aq)))) (af (fL cu (af (ah 10) (aq))) (aq)))))) (aG (bg 14 (dN "put" [("Pair",(aN bG 4 4)),("Join",(aN bf 4 10)),("Gather",(aN aR 4 9))] (ah 12) (af (aL (af (ah 0) (af (ah 1) (aq)))) (af (ah 13) (af (aL (aq)) (aq)))))) (aG (bg 15 (dN "put" [("Pair",(aN bG 4 4)),("Join",(aN bf 4 10)),("Gather",(aN aR 4 9))] (ah 12) (af (aL (af (ah 0) (af (ah 1) (aq)))) (af (aL (af (aL (aq)) (af (ah 6) (aq)))) (af (aL (aq)) (aq)))))) (bL (iz (fR (aM 12) (af (ah 14) (af (aL (af (aL (aq)) (af (aL (aq)) (aq)))) (aq)))) (fR (aM 12) (af (ah 15) (af (aL (af (aL (aq)) (af (ah 6) (aq)))) (aq)))))))))))))))/\F K0 [‹fr (k1 L) r›,‹fr (k2 L++t) q›,‹.str nm›,none,‹.int L.length›,none,‹.tup (O.map .tup)›,‹.int x›,some (.own (fX al)),none,none,none,none,none,none,none]=.ok (.bl true):=by
 refine⟨_,rfl,?_⟩;obtain⟨E,hE⟩:∃E:cK,E=(aG (bg 12 (fNew "Gather" ["name"] (af (ah 2) (aq)))) (fY 10 (aG (bg 13 (dN "put" [("Pair",(aN bG 4 4)),("Join",(aN bf 4 10)),("Gather",(aN aR 4 9))] (ah 12) (af (aL (af (ah 0) (af (ah 1) (aq)))) (af (aL (af (aL (aq)) (af (ah 6) (aq)))) (af (fL cu (af (ah 10) (aq))) (aq)))))) (aG (bg 14 (dN "put" [("Pair",(aN bG 4 4)),("Join",(aN bf 4 10)),("Gather",(aN aR 4 9))] (ah 12) (af (aL (af (ah 0) (af (ah 1) (aq)))) (af (ah 13) (af (aL (aq)) (aq)))))) (aG (bg 15 (dN "put" [("Pair",(aN bG 4 4)),("Join",(aN bf 4 10)),("Gather",(aN aR 4 9))] (ah 12) (af (aL (af (ah 0) (af (ah 1) (aq)))) (af (aL (af (aL (aq)) (af (ah 6) (aq)))) (af (aL (aq)) (aq)))))) (bL (iz (fR (aM 12) (af (ah 14) (af (aL (af (aL (aq)) (af (aL (aq)) (aq)))) (aq)))) (fR (aM 12) (af (ah 15) (af (aL (af (aL (aq)) (af (ah 6) (aq)))) (aq))))))))))):=⟨_,rfl⟩
 rw[<-hE];have ol:=tO.s.ln;have hsk:∀p∈al,qa (bk L) (p.1.map bQ):=λp h=>by
  obtain⟨a,ha,e⟩:=hp p h;rw[<-e];exact fO a ha
 obtain⟨es,ri⟩:=AB nd (λp h=>(hsk p h).sh) (τ_ne g.l1) ‹0›;have pm:=gU eN (encK al);have lt:=yd al;have hcW:∀a∈O,D.tup (a.take L.length)∈jq eN (encK al):=λa ha=>by
  obtain⟨k,hk,e⟩:=hc a ha;obtain⟨p,hp',rfl⟩:=List.mem_map.mp hk;exact pm.mem_iff.mpr (List.mem_map.mpr ⟨p,hp',by rw[<-e]⟩)
 generalize jq eN (encK al)=W at es ri pm hcW;have wl:W.length=al.length:=by rw[pm.length_eq,O0]
 have mem:∀d∈W,∃f,d=.tup f/\qa (bk L) f:=λd hd=>by
  obtain⟨p,h1,h2⟩:=List.mem_map.mp (pm.mem_iff.mp hd);exact⟨_,h2.symm,hsk p h1⟩
 have bl:(bk L).length=L.length:=by unfold bk;rw[O0]
 have l8:=g.l8;have r8:=g.r8;have i1:aD (fr (k1 L) r) (.int 1)=some (.tup (r.map fld)):=rfl;generalize hF1:fr (k1 L) r=F1 at i1 ⊢;generalize hF2:fr (k2 L++t) q=F2;generalize fX al=Z at lt;simp! only[Ik,lt,es];refine fS (Q:=λz=>z=.ok (.bl true)) (λi ρ=>∃(y:Int)(U:List (List D)),0<=y/\y<2147483700/\U.length=i/\(∀(j:Nat)(u:List D),U[j]?=some u->W[j]?=some (.tup (u.take L.length))/\L.length<=u.length/\u.length<=100)/\ρ=[‹F1›,‹F2›,‹.str nm›,none,none,none,‹.tup (O.map .tup)›,‹.int y›,‹Z›,none,some (.own (.lst ((U.map vu).map .tup))),none,none,none,none,none]) ?_ ⟨x,[],x0,x1,rfl,(λ_ _ h=>nomatch h),rfl⟩ ?_
 ·rintro i d ρ kk hd ⟨y,U,y0,y1,ul,hu,rfl⟩;have hi:=cW hd;obtain⟨f,rfl,hf⟩:=mem d (Pj hd);have fl:=hf.length;obtain⟨y',y0',y1',ey⟩:=gI y y0 y1;obtain⟨vs,ev,v1,_,_⟩:=wm n g.n2 [] r (by decide) g.r8 (λ_ h=>nomatch h) g.hr (r.map fld) rfl y' y0' ‹0›;have v1:vs.length=0+r.length:=v1;have a1:=fe f vs ‹0›;have a2:=fe (f++vs) [.tup []] (by rw[Pk,Pq];omega);have ap:gh ((U.map vu).map .tup) [.tup (f++vs++[.tup []])]=some (((U++[f++vs]).map vu).map .tup):=by
   rw[ky (by rw[O0,O0];omega),P7,P7];rfl
  refine⟨_,_,rfl,⟨y',U++[f++vs],y0',by omega,by rw[Pk,Pq,ul],λj u h=>?_,rfl⟩,?_⟩
  ·by_cases hj:j<U.length
   ·rw[Pb hj]at h;exact hu j u h
   ·have hj':=cW h;rw[Pk,Pq]at hj'
    have:j=U.length:=(by omega);subst this;rw[O9 (OT _),Qr]at h;cases h;refine⟨?_,by rw[Pk];omega,by rw[Pk];omega⟩;rw[ul,hd,List.take_left' ‹0›]
  ·have sm:=λK:Ks=>kD 10 gh (af (f2 bS (f2 bS (ah 11) (fR (aN cD 2 2) (af (f2 aD (ah 0) (fC (.int 1))) (af (ah 7) (aq))))) (aL (af (aL (aq)) (aq)))) (aq)) K [‹F1›,‹F2›,‹.str nm›,none,none,none,‹.tup (O.map .tup)›,‹.int y'›,‹Z›,none,some (.own (.lst ((U.map vu).map .tup))),‹.tup f›,none,none,none,none] (xs:=(U.map vu).map .tup) rfl;generalize ((U++[f++vs]).map vu).map D.tup=Y1 at ap ⊢;generalize (U.map vu).map D.tup=Y2 at ap sm ⊢;simp! only[ey,sm,i1,ev,a1,Fh,Of,a2,ap]
 ·rintro ρ' ⟨y,U,y0,y1,ul,hu,rfl⟩;have at_:∀(j:Nat)(h:j<U.length),W[j]?=some (.tup (U[j].take L.length))/\L.length<=U[j].length/\U[j].length<=100:=λj h=>hu j U[j] (PX h);have fU:∀u∈U,qa (bk L) (u.take L.length)/\L.length<=u.length/\u.length<=100:=λu hm=>by
   obtain⟨j,hj,e⟩:=P4 hm;obtain⟨h1,h2⟩:=at_ j hj;obtain⟨f,ef,hf⟩:=mem _ (Pj h1);cases ef;rw[e]at hf h2;exact⟨hf,h2⟩
  have tU:Tb ((bk L).map (·.2.b)) L.length U:=Tb.of (τ_ne g.l1) (by rw[O0,bl]) (λu hm=>(fU u hm).1.sh) (List.pairwise_iff_getElem.mpr λi j hi hj hij=>by
   have a:=(at_ i hi).1;have b:=(at_ j hj).1;rw[PX ‹0›]at a b
   have:=List.pairwise_iff_getElem.mp ri i j ‹0› ‹0› hij
   rw[Option.some.inj a,Option.some.inj b]at this;exact this) ‹0›
  obtain⟨F,hF,e⟩:=end_is g tO fO oa tU (λu h=>(fU u h).1) (λu h=>(fU u h).2) (λa ha=>by
   obtain⟨j,hj,e⟩:=P4 (hcW a ha);have h1:=(at_ j ‹0›).1;rw[PX hj,e]at h1;injection h1 with h1;injection h1 with h1;exact⟨_,QB (show j<U.length by omega),h1.symm⟩) nm (‹.int y›) (‹Z›)
  rw[hE,<-hF,<-hF1,<-hF2];exact e
def ui(ns:List Int)(g:Gd b L t r q n)(nm:Str):aN cS 4 16 [fr (k1 L) r,fr (k2 L++t) q,.str nm,.lst (ns.map .int)]=.ok (.bl true):=by
 have l8:=g.l8;have r8:=g.r8;have q8:=g.q8;have bl:(bk L).length=L.length:=by unfold bk;rw[O0]
 have kb:aN ce 2 5 [fr (k1 L) r,fr (k2 L++t) q]=.ok (.tup ((bk L).map kf)):=yi g.ok ‹0› t (.tup (r.map fld)) (.tup (q.map fld));have ct:cutD ((k2 L++t).map kf) (some (L.length:Int)) none=t.map kf:=by
  rw[tQ,P7,List.drop_left' (by rw[O0,O0])]
 have a1:=fe ((bk L).map kf) (t.map kf) (by rw[O0,O0];omega);have a2:=fe ((bk L).map kf++t.map kf) (q.map fld) (by rw[Pk,O0,O0,O0];omega);have kl:(bk L++t).length=L.length+t.length:=by rw[Pk,bl]
 obtain⟨O,eO,ri,vl,hv⟩:=AD n g.n2 (bk L++t) q (by have:=g.l1;omega) ‹0› g.q8 (λp h=>(List.mem_append.mp h).elim (Hi g.ok p) (g.tg p)) g.hq ((bk L).map kf++t.map kf++q.map fld) (by rw[P7 (l₂:=q),<-xB,P7]) ns;rw[kl]at eO ri hv;have tO:Tb ((bk L++t).map (·.2.b)) (L.length+t.length) O:=Tb.of (λz=>by
  have:=congrArg List.length z
  rw[O0,kl,Px]at this
  have:=g.l1
  omega) (by rw[O0,kl]) (λa ha=>(hv a ha).2.1.sh) ri ‹0›
 have fO:∀a∈O,qa (bk L) (a.take L.length):=λa ha=>by
  have:=(hv a ha).2.1.take
  rwa [bl,Q2,QM ‹0›]at this
 have oa:∀a∈O,a.length<=100/\∀v∈a,AL 4 v:=λa ha=>⟨by have:=(hv a ha).1;omega,(hv a ha).2.2⟩
 obtain⟨x,x0,x1,ex⟩:=pW ns 2 ‹0›;have ex:aN bV 2 3 [.lst (ns.map .int),.int 2]=.ok (.int x):=ex;have i0:aD (fr (k1 L) r) (.int 0)=some (.tup ((k1 L).map kf)):=rfl;have i2:aD (fr (k2 L++t) q) (.int 0)=some (.tup ((k2 L++t).map kf)):=rfl;have i3:aD (fr (k2 L++t) q) (.int 1)=some (.tup (q.map fld)):=rfl;have kL:(k1 L).length=L.length:=O0 _;have kP:(k2 L++t).length=L.length+t.length:=by rw[Pk,O0]
 obtain⟨E,hE⟩:∃E:cK,E=(aG (jU 10 (gE (aq))) (fY 8 (eD [3,4,5,9] (aG (ku (bi (fL eU (af (fL lV (af (ah 8) (aq))) (aq)))) (gN 11) (aG (bg 7 (fR (aN aJ 1 1) (af (ah 7) (aq)))) (aG (yA 10 gh (af (f2 bS (f2 bS (ah 11) (fR (aN cD 2 2) (af (f2 aD (ah 0) (fC (.int 1))) (af (ah 7) (aq))))) (aL (af (aL (aq)) (aq)))) (aq))) (eD [11] cU)))) (aG (bg 12 (fNew "Gather" ["name"] (af (ah 2) (aq)))) (fY 10 (aG (bg 13 (dN "put" [("Pair",(aN bG 4 4)),("Join",(aN bf 4 10)),("Gather",(aN aR 4 9))] (ah 12) (af (aL (af (ah 0) (af (ah 1) (aq)))) (af (aL (af (aL (aq)) (af (ah 6) (aq)))) (af (fL cu (af (ah 10) (aq))) (aq)))))) (aG (bg 14 (dN "put" [("Pair",(aN bG 4 4)),("Join",(aN bf 4 10)),("Gather",(aN aR 4 9))] (ah 12) (af (aL (af (ah 0) (af (ah 1) (aq)))) (af (ah 13) (af (aL (aq)) (aq)))))) (aG (bg 15 (dN "put" [("Pair",(aN bG 4 4)),("Join",(aN bf 4 10)),("Gather",(aN aR 4 9))] (ah 12) (af (aL (af (ah 0) (af (ah 1) (aq)))) (af (aL (af (aL (aq)) (af (ah 6) (aq)))) (af (aL (aq)) (aq)))))) (bL (iz (fR (aM 12) (af (ah 14) (af (aL (af (aL (aq)) (af (aL (aq)) (aq)))) (aq)))) (fR (aM 12) (af (ah 15) (af (aL (af (aL (aq)) (af (ah 6) (aq)))) (aq))))))))))))))):=⟨_,rfl⟩
 rw[tL];unfold cS;rw[<-hE];generalize hF1:fr (k1 L) r=F1 at kb i0 ⊢;generalize hF2:fr (k2 L++t) q=F2 at kb i2 i3 ⊢;simp! only[i0,O0,kb,i2,kP,ct,a1,i3,a2,eO,ex,sg];refine fS (Q:=λz=>z=.ok (.bl true)) (λi ρ=>∃al:List (List Key×D),(al.map (·.1)).Nodup/\al.length<=i/\(∀p∈al,∃a∈O,a.take L.length=p.1.map bQ)/\(∀(j:Nat)(a:List D),j<i->O[j]?=some a->∃k∈al.map (·.1),k.map bQ=a.take L.length)/\ρ=[‹F1›,‹F2›,‹.str nm›,none,‹.int L.length›,none,‹.tup (O.map .tup)›,‹.int x›,some (.own (fX al)),none,none,none,none,none,none,none]) ?_ ⟨[],PB,OT _,(λ_ h=>nomatch h),(λ_ _ h=>by omega),rfl⟩ ?_
 ·rintro i d ρ kk hd ⟨al,nd,ll,hp,hc,rfl⟩;have hi:=cW hd;rw[O0]at hi;rw[Ph,PX hi]at hd;cases hd;have rm:O[i]∈O:=QB hi;obtain⟨k,eq⟩:=pI (fO _ rm).sh;have ct:cutD O[i] none (some (L.length:Int))=k.map bQ:=by rw[jK,eq]
  have pk:=qN al k (.bl true);refine⟨_,_,rfl,⟨iW al k (.bl true),AI _ _ nd,by have:=yS al k (.bl true);omega,λp h=>?_,λj a hj h=>?_,rfl⟩,?_⟩
  ·rcases ym h with z|z
   ·exact hp p z
   ·subst z;exact⟨_,rm,eq⟩
  ·by_cases e:j=i
   ·subst e;rw[PX hi]at h;cases h;refine⟨k,?_,eq.symm⟩;rw[pk];split
    ·assumption
    ·exact OU _ OJ
   ·obtain⟨k',h1,h2⟩:=hc j a ‹0› h;refine⟨k',?_,h2⟩;rw[pk];split
    ·exact h1
    ·exact OM _ h1
  ·have pd:=λK:Ks=>Bd (i:=8) (fk:=bM (ah 9) (bz) (cC (ah 4))) (fv:=fC (.bl true)) (k:=K) (ρ:=[‹F1›,‹F2›,‹.str nm›,none,‹.int L.length›,none,‹.tup (O.map .tup)›,‹.int x›,some (.own (fX al)),‹.tup O[i]›,none,none,none,none,none,none]) (al:=al) (q:=k) (v:=.bl true) rfl (by simp! only[ct]) rfl ‹0›;generalize fX (iW al k (.bl true))=Y at pd ⊢;generalize fX al=Z at pd ⊢;simp! only[pd]
 ·rintro ρ' ⟨al,nd,ll,hp,hc,rfl⟩;rw[O0]at ll hc;obtain⟨F,hF,e⟩:=Je g tO fO oa nm nd ll hp (λa ha=>by
   obtain⟨j,hj,e⟩:=P4 ha;exact hc j a hj (by rw[PX hj,e])) x x0 ‹0›
  rw[hE,<-hF,<-hF1,<-hF2];exact e
end
def math(ns:List Int)(hl:ns.length<=63):aN sO 1 3 [.lst (ns.map .int)]=.ok (.bl true):=by
 obtain⟨L,r,q,n,l1,l8,s8,ok,n2,hr,hq,ej⟩:=BF ns;have jf:=wC ns l1 l8 s8 ok n2 hr hq;obtain⟨b,M,t,r',q',n',b0,hb,g,eg⟩:=yC ns;obtain⟨nm,en⟩:=wZ ns b0 hb g;have gf:=ui ns g nm;have un2:∀(a b:D)(ρ:ay),gT 2 (kI [1,2]) (.tup [a,b]) ρ=some (setV 2 b (setV 1 a ρ)):=λ_ _ _=>rfl;have evU:∀(f:FX)(g:GF)(k:Ks)(ρ:ay),D3 f g k ρ=su (f ρ) k ρ λd=>(rO (g d ρ)).bind k.nx:=λ_ _ _ _=>rfl;rw[mQ];unfold sO;simp! only[evU,un2,ej,jf,eg,en,gf]
end Tk57
open PySem PySem.W PyProof.Rows
theorem PySem.W.Fast.tw17720879900963893436 : True := trivial
theorem PySem.W.Fast.tw6407475599188452654 : True := trivial
theorem PySem.W.Fast.tw175379049131532508 : True := trivial
theorem PySem.W.Fast.tw5194546437570084055 : True := trivial
theorem PySem.W.Fast.tw14837152952075995978 : True := trivial
theorem PySem.W.Fast.tw11201405686462400782 : True := trivial
theorem PySem.W.Fast.tw15230368609798267345 : True := trivial
theorem PySem.W.Fast.tw10908722635613327405 : True := trivial
theorem PySem.W.Fast.tw4940737854404595259 : True := trivial
theorem PySem.W.Fast.tw18377565754393928346 : True := trivial
theorem PySem.W.Fast.tw4206146732300311648 : True := trivial
theorem PySem.W.Fast.tw8775229320288248072 : True := trivial
theorem PySem.W.Fast.tw9714798736076907820 : True := trivial
theorem PySem.W.Fast.tw9635216554093839872 : True := trivial
theorem PySem.W.Fast.tw14614816656339640082 : True := trivial
theorem PySem.W.Fast.tw16102181024135404237 : True := trivial
theorem PySem.W.Fast.tw13181802343082918316 : True := trivial
theorem PySem.W.Fast.tw4202415571700025029 : True := trivial
theorem PySem.W.Fast.tw15454783897659081033 : True := trivial
theorem PySem.W.Fast.tw11019226961937697562 : True := trivial
theorem PySem.W.Fast.tw17457012587471054331 : True := trivial
theorem PySem.W.Fast.tw8064306357694903960 : True := trivial
theorem PySem.W.Fast.tw11595537432621244641 : True := trivial
theorem PySem.W.Fast.tw10895489386475973770 : True := trivial
theorem PySem.W.Fast.tw10161546083953527937 : True := trivial
theorem PySem.W.Fast.tw2208359643067970123 : True := trivial
theorem PySem.W.Fast.tw17670264286315914546 : True := trivial
theorem PySem.W.Fast.tw3310860640044816962 : True := trivial
theorem PySem.W.Fast.tw13260984230713903876 : True := trivial
theorem PySem.W.Fast.tw3884095417973914556 : True := trivial
theorem PySem.W.Fast.tw10673831758132076696 : True := trivial
theorem PySem.W.Fast.tw13425421228190473270 : True := trivial
theorem PySem.W.Fast.tw12875043696379478188 : True := trivial
theorem PySem.W.Fast.tw642922791091550029 : True := trivial
theorem PySem.W.Fast.tw16760681249583352865 : True := trivial
theorem PySem.W.Fast.tw14200425933798892891 : True := trivial
theorem PySem.W.Fast.tw17242082634624741215 : True := trivial
theorem PySem.W.Fast.tw14283527899071196102 : True := trivial
theorem PySem.W.Fast.tw3820085946768333428 : True := trivial
theorem PySem.W.Fast.tw13193441766889063655 : True := trivial
theorem PySem.W.Fast.tw88714814623323229 : True := trivial
theorem PySem.W.Fast.tw716316178359460836 : True := trivial
theorem PySem.W.Fast.tw7609463383829112156 : True := trivial
theorem PySem.W.Fast.tw16768588391173793354 : True := trivial
theorem PySem.W.Fast.tw5548326306673610022 : True := trivial
theorem PySem.W.Fast.tw16473979591280540800 : True := trivial
theorem PySem.W.Fast.tw6184408902381351321 : True := trivial
theorem PySem.W.Fast.tw1068331010389258705 : True := trivial
theorem PySem.W.Fast.tw14990518901380660203 : True := trivial
theorem PySem.W.Fast.tw3291465017465552256 : True := trivial
theorem PySem.W.Fast.tw1183902262305129522 : True := trivial
theorem PySem.W.Fast.tw4874813106479108919 : True := trivial
theorem PySem.W.Fast.tw2174781423104241306 : True := trivial
theorem PySem.W.Fast.tw8635648190209292596 : True := trivial
theorem PySem.W.Fast.tw8232816712790070569 : True := trivial
theorem PySem.W.Fast.tw15643461426714645256 : True := trivial
theorem PySem.W.Fast.tw10134999698124712306 : True := trivial
theorem PySem.W.Fast.tw2253764256293727516 : True := trivial
theorem PySem.W.Fast.tw4110029042732313523 : True := trivial
theorem PySem.W.Fast.tw2820034801733700632 : True := trivial
theorem PySem.W.Fast.tw15172547840354832827 : True := trivial
theorem PySem.W.Fast.tw5987371330072700493 : True := trivial
theorem PySem.W.Fast.tw15505974363854838977 : True := trivial
theorem PySem.W.Fast.tw10925262674958212541 : True := trivial
theorem PySem.W.Fast.tw5572856326042561151 : True := trivial
theorem PySem.W.Fast.tw3024430170494217921 : True := trivial
theorem PySem.W.Fast.tw8159539234841740317 : True := trivial
theorem PySem.W.Fast.tw1592058836735519061 : True := trivial
theorem PySem.W.Fast.tw4256588561181436728 : True := trivial
theorem PySem.W.Fast.tw5842449029957378830 : True := trivial
theorem PySem.W.Fast.tw4136509975796276155 : True := trivial
theorem PySem.W.Fast.tw13163060284031039957 : True := trivial
theorem PySem.W.Fast.tw16855576579733585357 : True := trivial
theorem PySem.W.Fast.tw5372573756526582061 : True := trivial
theorem PySem.W.Fast.tw11899732660881732464 : True := trivial
theorem PySem.W.Fast.tw3689052834054048620 : True := trivial
theorem PySem.W.Fast.tw1980841011473573705 : True := trivial
theorem PySem.W.Fast.tw15125876858743897882 : True := trivial
theorem PySem.W.Fast.tw386837182097140144 : True := trivial
theorem PySem.W.Fast.tw3810172507239012328 : True := trivial
theorem PySem.W.Fast.tw17917173758494616858 : True := trivial
theorem PySem.W.Fast.tw17476837313484989624 : True := trivial
theorem PySem.W.Fast.tw15046027424858451576 : True := trivial
theorem PySem.W.Fast.tw863336050881633432 : True := trivial
theorem PySem.W.Fast.tw9933764524178290285 : True := trivial
theorem PySem.W.Fast.tw4702823177990105214 : True := trivial
theorem PySem.W.Fast.tw16829834015250641605 : True := trivial
theorem PySem.W.Fast.tw5747740561420968476 : True := trivial
theorem PySem.W.Fast.tw4626821331500082644 : True := trivial
theorem PySem.W.Fast.tw16533990841908121040 : True := trivial
theorem PySem.W.Fast.tw15786466149588822388 : True := trivial
theorem PySem.W.Fast.tw8490291538308788807 : True := trivial
theorem PySem.W.Fast.tw14838119905945674013 : True := trivial
theorem PySem.W.Fast.tw2546226087858683435 : True := trivial
theorem PySem.W.Fast.tw13367059708953979667 : True := trivial
theorem PySem.W.Fast.tw12847654518014782405 : True := trivial
theorem PySem.W.Fast.tw3897479810027828413 : True := trivial
theorem PySem.W.Fast.tw12682233175828340160 : True := trivial
theorem PySem.W.Fast.tw15889670577806560181 : True := trivial
theorem PySem.W.Fast.tw14172036855889720750 : True := trivial
theorem PySem.W.Fast.tw5404628406721320739 : True := trivial
theorem PySem.W.Fast.tw18031216782750492298 : True := trivial
theorem PySem.W.Fast.tw8130574330622377235 : True := trivial
theorem PySem.W.Fast.tw17114735241576602622 : True := trivial
theorem PySem.W.Fast.tw7161427271244184473 : True := trivial
theorem PySem.W.Fast.tw10974092929984882309 : True := trivial
theorem PySem.W.Fast.tw7011187083068169420 : True := trivial
theorem PySem.W.Fast.tw4062881738339593561 : True := trivial
theorem PySem.W.Fast.tw5005614538048961401 : True := trivial
theorem PySem.W.Fast.tw9005493924312924079 : True := trivial
theorem PySem.W.Fast.tw9125228020241529467 : True := trivial
theorem PySem.W.Fast.tw11607771970748981412 : True := trivial
set_option maxRecDepth 100000 in
set_option maxHeartbeats 0 in
theorem PySem.Challenge.cw_twoglass_k57_no_pair_lasts_holds : PySem.Challenge.rw_twoglass_k57_no_pair_lasts.Holds := by
  w_on; o_law; k_head; (case hw => w_witness2)
  k_fill
  refine Tk57.walk (l := PySem.Challenge.rw_twoglass_k57_no_pair_lasts) rfl rfl (fun w h Y => ⟨PySem.W.km_in_of Y, PySem.W.km_tabs_of Y _ (List.Mem.head _)⟩) ?F Tk57.math
  case F =>
    intro w mg fa h KX G hmg
    refine' Tk57.all_mk KX G hmg ?ac0 ?ac1 ?ac2 ?a0 ?l0 ?c0 ?k0 ?a1 ?i1 ?l1 ?c1 ?k1 ?a2 ?l2 ?c2 ?k2 ?a3 ?l3 ?c3 ?k3 ?a4 ?l4 ?c4 ?k4 ?a5 ?i5 ?l5 ?c5 ?k5 ?a6 ?l6 ?c6 ?k6 ?a7 ?l7 ?c7 ?k7 ?a8 ?l8 ?c8 ?k8 ?a9 ?l9 ?c9 ?k9 ?a10 ?l10 ?c10 ?k10 ?a11 ?l11 ?c11 ?k11 ?a12 ?l12 ?c12 ?k12 ?a13 ?l13 ?c13 ?k13 ?a14 ?l14 ?c14 ?k14 ?a15 ?l15 ?c15 ?k15 ?a16 ?l16 ?c16 ?k16 ?a17 ?l17 ?c17 ?k17 ?a18 ?i18 ?l18 ?c18 ?k18 ?a19 ?l19 ?c19 ?k19 ?a20 ?l20 ?c20 ?k20 ?a21 ?l21 ?c21 ?k21 ?a22 ?l22 ?c22 ?k22 ?a23 ?l23 ?c23 ?k23 ?a24 ?l24 ?c24 ?k24 ?a25 ?l25 ?c25 ?k25 ?a26 ?l26 ?c26 ?k26 ?a27 ?l27 ?c27 ?k27 ?a28 ?l28 ?c28 ?k28 ?a29 ?l29 ?c29 ?k29 ?a30 ?l30 ?c30 ?k30 ?a31 ?l31 ?c31 ?k31 ?a32 ?l32 ?c32 ?k32 ?a33 ?l33 ?c33 ?k33 ?a34 ?l34 ?c34 ?k34 ?a35 ?l35 ?c35 ?k35 ?a36 ?l36 ?c36 ?k36 ?a37 ?l37 ?c37 ?k37 ?a38 ?l38 ?c38 ?k38 ?a39 ?l39 ?c39 ?k39 ?a40 ?l40 ?c40 ?k40 ?a41 ?l41 ?c41 ?k41 ?a42 ?l42 ?c42 ?k42 ?a43 ?i43 ?l43 ?c43 ?k43 ?p0 ?q0 ?r0 ?s0 ?p1 ?q1 ?r1 ?s1 ?o1 ?m1 ?kp1 ?p2 ?q2 ?r2 ?s2 ?n2_0 ?m2 ?kp2 ?z0 ?z1 ?z2 ?z3 ?z4 ?z5 ?z6 ?z7 ?z8 ?z9 ?z10 ?z11 ?z12 ?z13 ?z14 ?lc ?lh ?lt
    case ac0|ac1|ac2|a0|l0|c0|k0|a1|i1|l1|c1|k1|a2|l2|c2|k2|a3|l3|c3|k3|a4|l4|c4|k4|a5|i5|l5|c5|k5|a6|l6|c6|k6|a7|l7|c7|k7|a8|l8|c8|k8|a9|l9|c9|k9|a10|l10|c10|k10|a11|l11|c11|k11|a12|l12|c12|k12|a13|l13|c13|k13|a14|l14|c14|k14|a15|l15|c15|k15|a16|l16|c16|k16|a17|l17|c17|k17|a18|i18|l18|c18|k18|a19|l19|c19|k19|a20|l20|c20|k20|a21|l21|c21|k21|a22|l22|c22|k22|a23|l23|c23|k23|a24|l24|c24|k24|a25|l25|c25|k25|a26|l26|c26|k26|a27|l27|c27|k27|a28|l28|c28|k28|a29|l29|c29|k29|a30|l30|c30|k30|a31|l31|c31|k31|a32|l32|c32|k32|a33|l33|c33|k33|a34|l34|c34|k34|a35|l35|c35|k35|a36|l36|c36|k36|a37|l37|c37|k37|a38|l38|c38|k38|a39|l39|c39|k39|a40|l40|c40|k40|a41|l41|c41|k41|a42|l42|c42|k42|a43|i43|l43|c43|k43|p0|q0|r0|s0|p1|q1|r1|s1|o1|m1|kp1|p2|q2|r2|s2|n2_0|m2|kp2|z0|z1|z2|z3|z4|z5|z6|z7|z8|z9|z10|z11|z12|z13|z14 => first|delta TX.Lk;k_is|k_is
    case lc => rfl
    case lh|lt => kernel_rfl
