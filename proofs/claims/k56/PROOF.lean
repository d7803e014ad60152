import PyProof.Rows.All
import Wide.All
import OpenK.AllK
import Wide.FinOn
import Lean
import PyProof.EqAt
import PyProof.EqKinds
import PyProof.TupleCall
import PyProof.NeKinds
import PyProof.ZipIter
import PyProof.Draws
import PyProof.FactsAll.zip
import KE.KSortTup
import KE.KDictSum
import PyProof.TupleOfSeq
import PyProof.StrWalks
import PyProof.Rows.SetFrom
import KE.KRevIter
import PyProof.Rows.Range3
import KE.KTryMore
import KE.KIsNot
import PyProof.ExcArgsOwn
import PyProof.ExcAttrAll.ValueError
import PyProof.ExcBaseAll.ValueError
import PyProof.NsDelKeeps
import PyProof.Rows.CallKwBuiltin
import PyProof.WalkInts
import PyProof.Rows.Catch
import KE.KLam
import KE.KNestM
import PyProof.FactsAll.list_3
import KE.KDictList
import PyProof.Rows.CountFlat
import KE.KDictOf
import PyProof.AttrMissHeap
import PyProof.DictFindH
import PySem.Challenge.RW_twoglass_k56_whole_joins_written
set_option Elab.async false
set_option linter.all false
set_option maxRecDepth 100000
open List renaming filterMap_cons→MU,mem_cons_self→MV,mem_cons_of_mem→MX,mem_append_left→MY,getElem?_set_self→MZ,getElem?_set_ne→M0,mem_append_right→M4,size_toArray→M8,append_nil→Nf,of_mem_zip→Ng,length_take→Nh,getElem?_append_right→Ni,getElem?_replicate→Nj,getElem?_append_left→Nk,getElem?_map→Nm,mem_of_getElem?→Nn,length_append→Np,length_map→Nq,length_drop→Nt,length_singleton→Nw,map_nil→Nx,map_cons→Ny,find?_cons→Nz,any_cons→NB,length_cons→NE,length_nil→NF,nodup_nil→NM,lookup_cons→NN,forIn_cons→NP,cons_append→NS,take_zero→NT,take_succ_cons→NU,drop_zero→NV,drop_succ_cons→NW,all_cons→NX,getElem?_eq_getElem→NY,getElem_of_mem→N3,nil_append→N4,map_congr_left→N5,map_append→N6,length_range→N7,take_length→N8,getElem?_range→Oa,drop_eq_getElem_cons→Oc,append_assoc→Oe,drop_length→Of,zipIdx_cons→Og,mem_cons→Oh,not_mem_nil→Oi,getElem?_cons_zero→Oj,getElem?_cons_succ→Ol,contains_cons→Ou,zip_cons_cons→Ov,zip_nil_right→Ow,replicate_succ→Ox,foldl_cons→Oy,not_lt_nil→Oz,nil_lt_cons→OA,cons_lt_cons_iff→OB,pairwise_singleton→OC,filter_cons_of_pos→OD,filter_cons_of_neg→OG,getElem_mem→OH,pairwise_map→OI,getD_eq_getElem?_getD→OJ,map_map→OL,any_map→OM,toList_toArray→OO,getElem?_eq_none→OS,take_of_length_le→OT,mem_singleton→OU,find?_cons_of_pos→OY,find?_cons_of_neg→OZ,set_cons_zero→O1,set_cons_succ→O2,replicate_zero→O3,any_eq_true→O9,mem_nil_iff→Pa,take_succ_eq_append_getElem→Pb,length_filter_le→Ph,length_zipIdx→Pj,flatMap_cons→Pl,take_left'→Pm,take_append_of_le_length→Pn,take_take→Pp,filter_sublist→Pr,filter_filter→Pu,perm_ext_iff_of_nodup→Pw,take_append_drop→Px,mem_of_mem_take→Py,mem_of_mem_drop→Pz
open Int renaming natCast_nonneg→M6,fdiv_eq_ediv_of_nonneg→M7,toNat_natCast→Nr,emod_nonneg→O7,emod_lt_of_pos→O8,toNat_of_nonneg→Pk
open Nat renaming lt_of_lt_of_le→MP,lt_irrefl→MQ,ne_of_lt→MR,le_trans→MS,le_of_lt→MT,ne_of_gt→M1,le_refl→M3,le_of_eq→Nb,zero_le→Nc,lt_trans→NK,lt_succ_of_lt→NR,min_self→NZ,sub_zero→N9,lt_of_le_of_lt→Od,le_add_right→Om,add_lt_add_left→Oo,lt_add_of_pos_right→Oq,zero_add→Ot,lt_or_ge→OQ,le_total→OV,min_eq_left→OW,min_eq_right→OX,sub_self→O0
open Bool renaming false_and→M2,false_ne_true→M9,and_eq_true→Nu,true_or→NC,false_or→ND,false_eq_true→NQ,and_true→N0,and_false→N1,or_eq_true→N2,not_true→O5,not_false→O6,not_eq_true'→Pq
open Option renaming getD_none→Nv,isSome_map→NI
open PySem renaming Value→QI,World→QJ,Program→QK,Addr→QL,Paired→QM,Heap→QN,sizeLine→QO,mainGlobals→QQ,builtinsNs→QR,bootBuiltins→QS,Around→QT,Shared→QU,Scope→QV,wpAny→QW,Expr→QX,starEach→QY,Stmt→QZ,wpAny_mono→Q0,wpAny_Name→Q1,wpAny_truthy_bool→Q2,wpAny_execs_nil→Q3,wpAny_pure→Q4,wpAny_bind→Q5,wpAny_pyIter_list→Q6,PassesOwn→Q7,foldedSetIterable→Q8,wpAny_passesOwn→Q9,binaryOp→Ra,compareOp→Rb,behindInMarks→Rc,sizeLine_eq→Rf,codeAny→Rg,callWith→Rh,keywordEach→Ri,recursionLimit→Rj,cLine→Rl,FuncData→Rm,BindsTo→Rn,NameKind→Ro,Arguments→Rp,wpAny_Call_Name_kw→Rq,concat_meets→Rr,noFill_tuple_add→Rt,seq_tuple_add→Ru,IsPart→Rv,wpAny_field→Rx,wpAny_holding→Ry,wpAny_callSpecial?_slot→Rz,wpAny_call_entry→RA,wpAny_typeOf→RB,wpAny_newObj_type→RC,evalPart_none→RD,attributeBase→RF,Keyword→RG,tupleKind_room_in1→RH,wpAny_standAt→RJ,wpAny_comprehension_free→RK,wpAny_rule→RL,wpAny_getItem_str_slice→RM,post_val_or_str→RN,wpAny_seqItems→RO,wpAny_setField→RP,IsZip→RQ,IsPair→RT,wpAny_setField_rec→RU,wpAny_onRaise→RV,wpAny_updateSeq_pair→RW,wpAny_letGo→RX,wpAny_newTuple→RY,wpAny_attempt→RZ,wpAny_isInstance→R3,wpAny_newList→R9,wpAny_collect_seq→Sa,wpAny_dictEntries→Sd,wpAny_dictEpoch→Se,wpAny_typeNameOfWhole_keyiter→Sf,wpAny_typeNameOf_keyiter→Sg
open PySem.W renaming instObj→PB,methodObj→PC,Frag→PD,lookIn→PF,plainGet→PH,findIn→PJ,isFn→PK,plainGet_of→PL,makesIn→PN,Looks→PP,emptyDict→PQ,makes_of→PR,hasDictIn→PV,plainOver→PX,keepIn→PY,cellsFrom_some→PZ,fnOf→P0,codeIn→P4,nsIn→P5,kitOne→P6,kia_one→P7,callWith_K→P8,BoolBack→P9,tabObj→Qa,kla_fn→Qb,OpenLaw→Qc,kdl_call→Qd,codeHdIn→Qe,mg_of→Qf,mg_none_of→Qg,kas_ask→R5,kla_obj→Sb
open PySem.Heap renaming lt_size→Qh,get?_none_of_le→Qi,SameBut→Qj,get?_push_of_some→Qk,get?_push_size→Ql,size_push→Qm,get?_update_self→Qn,get?_push_ne→Qo,size_update→Qp,get?_update_ne→Qq
open PyProof.Rows renaming callWith_type1→Qr,slot_tuple_getitem→Qs,envOfC→Qt,IsTup→Qu,Call_→Qv,boot_str→Qw,boot_bool→Qx,boot_int→Qy,boot_tuple→Qz,boot_list→QA,boot_max→QB,boot_min→QC,IsTup→QP,Subscript_→RE,SortKind→R4,listUpdate_at→R6,get?_update_seq→R7,seqEpoch_at→R8
open PySem.F renaming slot_tuple_add→QD,entry_tuple_add→QE,args_tuple_add_2→QF,slot_list_append→QG,type_list_append→QH
set_option maxHeartbeats 1000000
local macro_rules | `(‹1›)=>`(by first | exact Or.inl rfl | exact Or.inr rfl)
local macro_rules | `(‹2›)=>`(⟨rfl, rfl, rfl, by decide +kernel, rfl, by decide +kernel, by decide +kernel⟩)
local macro_rules | `(‹0›)=>`(by omega)
namespace L2
open PySem PySem.Spec PyProof.Rows
abbrev Key:=Sum Int Str
def qf:Key->QI->Bool
 |.inl k,v=>Value.isInt k v
 |.inr x,v=>Value.isStrOf x v
def Km(w:QJ):Key->Int
 |.inl k=>hashInt k
 |.inr x=>hashStr w x
theorem cT:∀{k:Key}{v:QI},qf k v=true->(∃i t,k=Sum.inl i/\v=Value.int i t)\/(∃x t,k=Sum.inr x/\v=Value.str x t)
 |.inl i,v,h=>by
  obtain⟨t,e⟩:=Value.isInt_shape (k:=i) (v:=v) h;exact .inl ⟨i,t,rfl,e⟩
 |.inr x,v,h=>by
  obtain⟨t,e⟩:=Value.isStrOf_shape (x:=x) (v:=v) h;exact .inr ⟨x,t,rfl,e⟩
theorem Ah(i:Int)(t:Tok):qf (.inl i) (.int i t)=true:=by simp[qf,Value.isInt]
theorem An(x:Str)(t:Tok):qf (.inr x) (.str x t)=true:=by simp[qf,Value.isStrOf]
theorem GH(a b:Int):decide ((Sum.inl a:Key)=Sum.inl b)=(a==b):=by
 by_cases e:a=b
 ·subst e;simp
 ·have h:¬(Sum.inl a:Key)=Sum.inl b:=λq=>e (Sum.inl.inj q);rw[decide_eq_false h];exact(beq_eq_false_iff_ne.mpr e).symm
theorem Hz(a b:Str):decide ((Sum.inr a:Key)=Sum.inr b)=decide (a=b):=by
 by_cases e:a=b
 ·subst e;simp
 ·have h:¬(Sum.inr a:Key)=Sum.inr b:=λq=>e (Sum.inr.inj q);rw[decide_eq_false h,decide_eq_false e]
theorem G6(a:Int)(b:Str):decide ((Sum.inl a:Key)=Sum.inr b)=false:=decide_eq_false (λq=>nomatch q)
theorem Hf(a:Str)(b:Int):decide ((Sum.inr a:Key)=Sum.inl b)=false:=decide_eq_false (λq=>nomatch q)
def cN(prog:QK)(w:QJ):PySem.KeyKind prog w Key where
 is:=qf
 hash:=Km w
 inj:=λv a b ha hb=>by
  rcases cT ha with⟨i,t,rfl,rfl⟩|⟨x,t,rfl,rfl⟩
  ·rcases cT hb with⟨j,u,rfl,e⟩|⟨y,u,rfl,e⟩
   ·injection e with e1 _;rw[e1]
   ·exact nomatch e
  ·rcases cT hb with⟨j,u,rfl,e⟩|⟨y,u,rfl,e⟩
   ·exact nomatch e
   ·injection e with e1 _;rw[e1]
 byValue:=λk v h=>by
  rcases cT h with⟨i,t,rfl,rfl⟩|⟨x,t,rfl,rfl⟩<;>rfl
 pyHash:=λhv h=>by
  rcases cT hv with⟨i,t,rfl,rfl⟩|⟨x,t,rfl,rfl⟩
  ·exact wpAny_pyHash_int h
  ·exact wpAny_pyHash_str h
 eqBool:=λhu hv h=>by
  rcases cT hu with⟨i,t,rfl,rfl⟩|⟨x,t,rfl,rfl⟩
  ·rcases cT hv with⟨j,u,rfl,rfl⟩|⟨y,u,rfl,rfl⟩
   ·rw[GH]at h;exact wpAny_eqBool_int h
   ·rw[G6]at h;exact SeqAt.EqAt.int_str i t y u _ _ _ _ h
  ·rcases cT hv with⟨j,u,rfl,rfl⟩|⟨y,u,rfl,rfl⟩
   ·rw[Hf]at h;exact SeqAt.EqAt.str_int x t j u _ _ _ _ h
   ·rw[Hz]at h;exact wpAny_eqBool_str h
 «strs»:=λk x t v h=>by
  rcases cT h with⟨i,u,rfl,e⟩|⟨y,u,rfl,e⟩
  ·exact nomatch e
  ·injection e with e1 _;subst e1;cases v<;>rfl
theorem yy(prog:QK)(w:QJ)(k:Key)(v:QI):(cN prog w).is k v=qf k v:=rfl
theorem xJ(prog:QK)(w:QJ)(i:Int)(t:Tok):(cN prog w).is (.inl i) (.int i t)=true:=Ah i t
theorem xq(prog:QK)(w:QJ)(x:Str)(t:Tok):(cN prog w).is (.inr x) (.str x t)=true:=An x t
inductive V where
 |non|bl (b:Bool)|int (i:Int)|str (x:Str)|byt (b:Array UInt8)|flt (b:UInt64)|ref (a:QL)|ty (n:String)
 deriving DecidableEq
def RelV:V->QI->Prop
 |.non,u=>u=Value.none
 |.bl b,u=>u=Value.bool b
 |.int i,u=>∃t,u=Value.int i t
 |.str x,u=>∃t,u=Value.str x t
 |.byt b,u=>∃t,u=Value.bytes b t
 |.flt b,u=>∃t,u=Value.float b t
 |.ref a,u=>u=Value.ref a
 |.ty n,u=>u=Value.type n
abbrev Vals:List V->List QI->Prop:=QM RelV
theorem Vals.length{xs:List V}{us:List QI}(r:Vals xs us):xs.length=us.length:=Paired.length r
theorem Vals.get:∀{xs:List V}{us:List QI}{i:Nat}{x:V},Vals xs us->xs[i]?=some x->∃u,us[i]?=some u/\RelV x u
 |_,_,_,_,.nil,e=>by simp at e
 |_,_,0,_,.cons r _,e=>by simp at e;subst e;exact⟨_,rfl,r⟩
 |_,_,i+1,x,.cons _ t,e=>by
  obtain⟨u,h1,h2⟩:=Vals.get (i:=i) (x:=x) t (by simpa using e);exact⟨u,by simpa using h1,h2⟩
theorem Vals.append:∀{xs ys:List V}{us ws:List QI},Vals xs us->Vals ys ws->Vals (xs++ys) (us++ws)
 |_,_,_,_,.nil,s=>s
 |_,_,_,_,.cons r t,s=>.cons r (Vals.append t s)
theorem Vals.take:∀{xs:List V}{us:List QI}(n:Nat),Vals xs us->Vals (xs.take n) (us.take n)
 |_,_,0,_=>.nil
 |_,_,_+1,.nil=>.nil
 |_,_,n+1,.cons r t=>.cons r (Vals.take n t)
theorem Vals.drop:∀{xs:List V}{us:List QI}(n:Nat),Vals xs us->Vals (xs.drop n) (us.drop n)
 |_,_,0,r=>r
 |_,_,_+1,.nil=>.nil
 |_,_,n+1,.cons _ t=>Vals.drop n t
def wz:Option V->Option QI->Prop
 |some v,some u=>RelV v u
 |none,none=>True
 |_,_=>False
def KV{κ:Type}:List (κ×V)->List (κ×QI)->Prop:=QM λ(p:κ×V)(q:κ×QI)=>p.1=q.1/\RelV p.2 q.2
def kV:Key->V
 |.inl i=>.int i
 |.inr x=>.str x
inductive HO where
  |lst (xs:List V)
  |tup (xs:List V)
  |dK (kvs:List (Key×V))|dT (kvs:List (List Key×V))
  |set (S:Int->Bool) (n:Nat)
  |ins (C dx:QL) (fs:List (Str×V))
  |own (x:QL)
  |xd (fs:List (Str×V))
  |met (f x:QL)
  |rng (lo hi:Int)
  |frz (o:Obj) (u:HO)
  |tbl (ps:Array QI)
  |ext (φ:(QL->Prop)->QN->Prop)
abbrev Hp:=QL->Option HO
def upd(H:Hp)(a:QL)(o:HO):Hp:=λb=>if b=a then some o else H b
theorem bb{H:Hp}{a:QL}{o:HO}:upd H a o a=some o:=by unfold upd;rw[if_pos rfl]
theorem aQ{H:Hp}{a b:QL}{o:HO}(h:b≠a):upd H a o b=H b:=by unfold upd;rw[if_neg h]
theorem Es{H:Hp}{a:QL}{o u:HO}:upd (upd H a o) a u=upd H a u:=by
 funext b;unfold upd;split<;>rfl
theorem Jv{H:Hp}{a b:QL}{o u:HO}(h:H a=some o)(h':H b=some u)(d:o≠u):a≠b:=by
 intro e;subst e;rw[h]at h';exact d (Option.some.inj h')
theorem bg{H:Hp}{a b:QL}{o:HO}(h:H a=some o)(h':H b=none):a≠b:=by
 intro e;subst e;rw[h]at h';cases h'
section
variable(P:QK)(w:QJ)
def cM(H:Hp)(h:QN)(a:QL):HO->Prop
 |.lst xs=>xs.length<=QO/\∃(its:List QI)(n:Nat),Vals xs its/\h.get? a=some {cls:=.type "list",data:=.seq its.toArray n}
 |.tup xs=>xs.length<=QO/\∃its:List QI,Vals xs its/\QP h a its.toArray
 |.dK kvs=>kvs.length<=QO/\(a==sysModules)=false/\∃vs,KV kvs vs/\h.DictOf (cN P w) a vs
 |.dT kvs=>kvs.length<=QO/\(a==sysModules)=false/\∃xs:List (List Key×QL×QI),
   QM (λ(p:List Key×V)(q:List Key×QL×QI)=>p.1=q.1/\H q.2.1=some (.tup (p.1.map kV))/\RelV p.2 q.2.2) kvs xs/\
   ∃o es ep,h.get? a=some o/\o.ExactDict/\o.data=.dict es ep/\es.toList=xs.map (entryOfKey (tupleKind (cN P w)))/\(xs.map (·.1)).Nodup
 |.set S n=>h.SetOf (intKind P w) a S n
 |.ins C dx fs=>H dx=some (.own a)/\fs.length<=1000/\dx≠a/\h.get? a=some (PB C dx)/\
   ∃mA,h.Ns1 dx mA/\(∀f,wz (fs.lookup f) (mA f))/\PySem.Within mA (fs.map (·.1))
 |.own _=>∃o,h.get? a=some o
 |.xd fs=>∃mA,h.Ns1 a mA/\∀f,wz (fs.lookup f) (mA f)
 |.rng lo hi=>∃t u v,h.get? a=some {cls:=.type "range",data:=.fields #[.int lo t,.int hi u,.int 1 v]}
 |.frz o u=>h.get? a=some o/\cM H h a u
 |.tbl ps=>h.get? a=some {cls:=.none,data:=.fields ps}
 |.met f x=>h.get? a=some (PC (.ref f) (.ref x))
 |.ext φ=>φ (λb=>H b=some (.own a)) h/\(∃o,h.get? a=some o)/\∀(S1 S2:QL->Prop)(h1 h2:QN),φ S1 h1->(∀b,S1 b->S2 b)->(∀b o,(b=a\/S1 b)->h1.get? b=some o->h2.get? b=some o)->φ S2 h2
def oM(H:Hp)(h:QN):Prop:=∀a o,H a=some o->cM P w H h a o
end
section
variable{P:QK}{w:QJ}{H H':Hp}{h h':QN}{a:QL}{o:HO}
theorem cM.lt(x:cM P w H h a o):a<h.objs.size:=by
 cases o with
 |lst xs=>obtain⟨_,_,_,_,e⟩:=x;exact Qh e
 |tup xs=>obtain⟨_,_,_,p⟩:=x;exact p.lt
 |dK kvs=>obtain⟨_,_,_,_,o,_,_,e,_⟩:=x;exact Qh e
 |dT kvs=>obtain⟨_,_,_,_,o,_,_,e,_⟩:=x;exact Qh e
 |set S n=>obtain⟨o,_,_,_,e,_⟩:=x;exact Qh e
 |ins C dx fs=>obtain⟨_,_,_,e,_⟩:=x;exact Qh e
 |own y=>obtain⟨_,e⟩:=x;exact Qh e
 |xd fs=>obtain⟨_,⟨_,_,_,e,_⟩,_⟩:=x;exact Qh e
 |rng lo hi=>obtain⟨_,_,_,e⟩:=x;exact Qh e
 |frz ob u=>obtain⟨e,_⟩:=x;exact Qh e
 |tbl ps=>exact Qh (show h.get? a=some _ from x)
 |met f y=>exact Qh (show h.get? a=some _ from x)
 |ext φ=>obtain⟨_,⟨_,e⟩,_⟩:=x;exact Qh e
theorem Paired.mapP{α β:Type}{F G:α->β->Prop}:∀{l₁:List α}{l₂:List β},QM F l₁ l₂->(∀a b,F a b->G a b)->QM G l₁ l₂
 |_,_,.nil,_=>.nil
 |_,_,.cons r t,f=>.cons (f _ _ r) (Paired.mapP t f)
theorem cM.stay(x:cM P w H h a o)(k:∀b u,(b=a\/H b=some (.own a))->h.get? b=some u->h'.get? b=some u)
  (ho:∀b,H b=some (.own a)->H' b=some (.own a)) (ht:∀b xs,H b=some (.tup xs)->H' b=some (.tup xs)):cM P w H' h' a o:=by
 induction o with
 |lst xs=>obtain⟨z,its,n,r,e⟩:=x;exact⟨z,its,n,r,k _ _ (.inl rfl) e⟩
 |tup xs=>obtain⟨z,its,r,ob,e,c⟩:=x;exact⟨z,its,r,ob,k _ _ (.inl rfl) e,c⟩
 |dK kvs=>obtain⟨z,y,vs,r,ob,es,ep,e,c⟩:=x;exact⟨z,y,vs,r,ob,es,ep,k _ _ (.inl rfl) e,c⟩
 |dT kvs=>
  obtain⟨z,y,xs,r,ob,es,ep,e,c⟩:=x;exact⟨z,y,xs,Paired.mapP r λp q z=>⟨z.1,ht _ _ z.2.1,z.2.2⟩,ob,es,ep,k _ _ (.inl rfl) e,c⟩
 |set S n=>obtain⟨ob,es,ep,t,e,c⟩:=x;exact⟨ob,es,ep,t,k _ _ (.inl rfl) e,c⟩
 |ins C dx fs=>
  obtain⟨d,z,ne,e,mA,⟨od,es,ep,e2,c⟩,r⟩:=x;exact⟨ho _ d,z,ne,k _ _ (.inl rfl) e,mA,⟨od,es,ep,k _ _ (.inr d) e2,c⟩,r⟩
 |own y=>obtain⟨ob,e⟩:=x;exact⟨ob,k _ _ (.inl rfl) e⟩
 |xd fs=>obtain⟨mA,⟨od,es,ep,e,c⟩,r⟩:=x;exact⟨mA,⟨od,es,ep,k _ _ (.inl rfl) e,c⟩,r⟩
 |rng lo hi=>obtain⟨t,u,v,e⟩:=x;exact⟨t,u,v,k _ _ (.inl rfl) e⟩
 |frz ob u ih=>obtain⟨e,q⟩:=x;exact⟨k _ _ (.inl rfl) e,ih q⟩
 |tbl ps=>
  have e:h.get? a=some {cls:=.none,data:=.fields ps}:=x;show h'.get? a=some {cls:=.none,data:=.fields ps};exact k a _ (.inl rfl) e
 |met f y=>
  have e:h.get? a=some (PC (.ref f) (.ref y)):=x;show h'.get? a=some (PC (.ref f) (.ref y));exact k a _ (.inl rfl) e
 |ext φ=>obtain⟨p,⟨o,e⟩,st⟩:=x;exact⟨st _ _ _ _ p ho k,⟨o,k _ _ (.inl rfl) e⟩,st⟩
theorem oM.lt(x:oM P w H h)(e:H a=some o):a<h.objs.size:=(x a o e).lt
theorem oM.fresh(x:oM P w H h)(e:h.objs.size<=a):H a=none:=by
 cases q:H a with
 |none=>rfl
 |some u=>exact absurd (MP (x.lt q) e) (MQ _)
theorem oM.kept(x:oM P w H h)(k:∀b u,h.get? b=some u->h'.get? b=some u):oM P w H h':=λa o e=>
 (x a o e).stay (λb u _ q=>k b u q) (λ_ q=>q) λ_ _ q=>q
theorem oM.laid(x:oM P w H h)(k:∀b u,h.get? b=some u->h'.get? b=some u)(hp:h.objs.size<=a)(new:cM P w (upd H a o) h' a o):oM P w (upd H a o) h':=λb u e=>by
 have hn:=x.fresh hp;by_cases hb:b=a
 ·subst hb;rw[bb]at e;cases e;exact new
 ·rw[aQ hb]at e;exact(x b u e).stay (λc v _ q=>k c v q) (λc q=>by rw[aQ (bg q hn)];exact q) λc xs q=>by rw[aQ (bg q hn)];exact q
end
def Rd(H:Hp)(a:QL)(u:HO):Prop:=H a=some u\/∃o,H a=some (.frz o u)
theorem Rd.ok{P:QK}{w:QJ}{H:Hp}{h:QN}{a:QL}{u:HO}(r:Rd H a u)(x:oM P w H h):cM P w H h a u:=by
 rcases r with r|⟨o,r⟩
 ·exact x a u r
 ·obtain⟨_,q⟩:=x a _ r;exact q
def II:Option HO->Prop
 |some (.lst _)=>True
 |some (.dK _)=>True
 |some (.dT _)=>True
 |some (.set _ _)=>True
 |some (.ins _ _ _)=>True
 |some (.ext _)=>True
 |_=>False
section
variable{P:QK}{w:QJ}{H:Hp}{h h':QN}{x e:QL}{o':HO}
theorem oM.write(ok:oM P w H h)(mu:II (H x))(he:e=x\/H e=some (.own x))(k:∀b u,b≠e->h.get? b=some u->h'.get? b=some u)(heo:∃u,h'.get? e=some u)
  (new:cM P w (upd H x o') h' x o'):oM P w (upd H x o') h':=λb u q=>by
 have nown:∀c y,H c=some (.own y)->c≠x:=λc y r z=>by subst z;rw[r]at mu;exact mu
 have ntup:∀c xs,H c=some (.tup xs)->c≠x:=λc xs r z=>by subst z;rw[r]at mu;exact mu
 by_cases hb:b=x
 ·subst hb;rw[bb]at q;cases q;exact new
 ·rw[aQ hb]at q;by_cases hbe:b=e
  ·have q':H b=some (.own x):=by
    rcases he with z|z
    ·exact absurd (hbe.trans z) hb
    ·rw[hbe];exact z
   rw[q]at q';cases q';obtain⟨v,hv⟩:=heo;exact⟨v,by rw[hbe];exact hv⟩
  ·refine(ok b u q).stay (λc v hc r=>k c v ?_ r) (λc r=>by rw[aQ (nown c b r)];exact r) λc xs r=>by rw[aQ (ntup c xs r)];exact r
   rcases hc with rfl|hc
   ·exact hbe
   ·rintro rfl;rcases he with z|z
    ·exact nown c b hc z
    ·rw[hc]at z;cases z;exact hb rfl
end
structure Un(fs ex:List QL)(H H':Hp)(h h':QN):Prop where
 keep:∀b o,h.get? b=some o->H b=none->b∉fs->b∉ex->h'.get? b=some o
 slot:∀b o,h.get? b=some o->H b=none->b∈fs->b∉ex->∃sl,h'.get? b=some {o with slots:=sl}
 free:∀b o,h.get? b=some o->H b=none->b∉ex->H' b=none
 there:∀b o,h.get? b=some o->b∉ex->∃o',h'.get? b=some o'
 tups:∀b xs,H b=some (.tup xs)->H' b=some (.tup xs)
 frzs:∀b o u,H b=some (.frz o u)->H' b=some (.frz o u)
 tbls:∀b ps,H b=some (.tbl ps)->∃more,H' b=some (.tbl (ps++more))
section
variable{fs fs' ex ex':List QL}{H H1 H2:Hp}{h h1 h2 h':QN}{a x e:QL}{o:HO}
theorem Un.any(u:Un fs ex H H1 h h1){b:QL}{ob:Obj}(q:h.get? b=some ob)(n:H b=none)(hx:b∉ex):∃sl,h1.get? b=some {ob with slots:=sl}:=by
 by_cases hb:b∈fs
 ·exact u.slot b ob q n hb hx
 ·exact⟨ob.slots,u.keep b ob q n hb hx⟩
theorem Un.kept(k:∀b u,h.get? b=some u->h'.get? b=some u):Un fs ex H H h h':=
 ⟨λb ob q _ _ _=>k b ob q,λb ob q _ _ _=>⟨ob.slots,k b ob q⟩,λ_ _ _ n _=>n,λb ob q _=>⟨ob,k b ob q⟩,λ_ _ q=>q,λ_ _ _ q=>q,λ_ ps q=>⟨#[],by rw[q];simp⟩⟩
theorem Un.refl:Un fs ex H H h h:=Un.kept λ_ _ q=>q
theorem Un.laid(k:∀b u,h.get? b=some u->h'.get? b=some u)(hp:h.objs.size<=a)(hn:H a=none):Un fs ex H (upd H a o) h h' where
 keep:=λb u q _ _ _=>k b u q
 slot:=λb u q _ _ _=>⟨u.slots,k b u q⟩
 free:=λb u q n _=>by rw[aQ (MR (MP (Qh q) hp))];exact n
 there:=λb u q _=>⟨u,k b u q⟩
 tups:=λb xs q=>by rw[aQ (bg q hn)];exact q
 frzs:=λb u xs q=>by rw[aQ (bg q hn)];exact q
 tbls:=λb ps q=>⟨#[],by rw[aQ (bg q hn),q];simp⟩
theorem Un.write(mu:II (H x))(he:e=x\/H e=some (.own x))(k:∀b u,b≠e->h.get? b=some u->h'.get? b=some u)(heo:∃u,h'.get? e=some u):Un fs ex H (upd H x o) h h':=by
 have hx:∀b,H b=none->b≠x:=λb n z=>by subst z;rw[n]at mu;exact mu
 have hb:∀b,H b=none->b≠e:=λb n z=>by
  subst z;rcases he with r|r
  ·exact hx b n r
  ·rw[n]at r;cases r
 have hm:∀b u,H b=some u->¬II (some u)->b≠x:=λb u q nm z=>by subst z;rw[q]at mu;exact nm mu
 refine⟨λb u q n _ _=>k b u (hb b n) q,λb u q n _ _=>⟨u.slots,k b u (hb b n) q⟩,λb u q n _=>by rw[aQ (hx b n)];exact n,λb u q _=>?_,
  λb xs q=>by rw[aQ (hm b _ q λz=>z)];exact q,λb u xs q=>by rw[aQ (hm b _ q λz=>z)];exact q,λb ps q=>⟨#[],by rw[aQ (hm b _ q λz=>z),q];simp⟩⟩
 by_cases hbe:b=e
 ·subst hbe;exact heo
 ·exact⟨u,k b u hbe q⟩
end
def JS(h:QN)(H:Hp):List QL:=(List.range h.objs.size).filter λa=>(H a).isSome
def vM(h:QN)(H:Hp):QN:=PySem.W.hideAll h (JS h H)
theorem AF(h:QN)(H:Hp):(vM h H).objs.size=h.objs.size:=PySem.W.hideAll_size _ _
theorem sE{h:QN}{H:Hp}{b:QL}{o:Obj}(e:h.get? b=some o)(n:H b=none):(vM h H).get? b=some o:=
 PySem.W.hideAll_get _ e λhm=>by
  have q:(H b).isSome=true:=(List.mem_filter.mp hm).2;rw[n]at q;simp at q
theorem DZ{h:QN}{H:Hp}{b:QL}{o:Obj}(e:(vM h H).get? b=some o):h.get? b=some o/\H b=none:=by
 have e':h.get? b=some o:=PySem.W.of_hideAll (JS h H) e;refine⟨e',?_⟩;cases q:H b with
 |none=>rfl
 |some x=>
  have hm:b∈JS h H:=List.mem_filter.mpr ⟨List.mem_range.mpr (Qh e'),by simp[q]⟩;have z:(vM h H).get? b=none:=PySem.W.hideAll_none (JS h H) hm;rw[z]at e;cases e
def Et(g h:QN)(L:QL):List (QL×Obj):=(List.range h.objs.size).filterMap λa=>if a=L\/(g.get? a).isSome=true then none else(h.get? a).map λo=>(a,o)
def rest(g h:QN)(L d:QL):List (QL×Obj):=(Et g h L).filter λp=>decide (p.1≠d)
structure Mod(K:PD)(mg:Str->Option QI)(base:QN):Prop where
 kin:K.In base
 glob:base.Ns QQ mg
 blt:∃mb,base.Ns QR mb/\∀x:Str,x≠"__name__"->mb x=QS x
 nolimit:base.NoLimit
structure Cx where
 prog:QK
 w:QJ
 K:PD
 mg:Str->Option QI
 base:QN
 A:QT
 N:List Str
 s₀:QU
 H₀:Hp
 env:Env
 outer:List Env
 stack:List Env
 ex:List QL
 fn:Str->Bool
 calm:Bool
 pn:List (QL×Obj)
 xe:QI->QU->Prop
def frs(l:List Env):List QL:=l.filterMap (·.frame)
abbrev Cx.fs(X:Cx):List QL:=frs X.outer
def Hs(sc:QV)(x:Str):Prop:=sc.names.lookup x=some .local\/sc.names.lookup x=some .cell\/sc.names.lookup x=some .free
def Loc(sc:QV)(x:Str):Prop:=sc.names.lookup x=some .local\/sc.names.lookup x=some .cell
def Look(env:Env)(h:QN)(m:Str->Option QI)(x:Str)(u:QI):Prop:=
 (env.kindOf x=some .local/\m x=some u)\/((env.kindOf x=some .cell\/env.kindOf x=some .free)/\∃c,env.cells.lookup x=some c/\h.IsCell c (some u))
structure Cx.Ok(X:Cx):Prop where
 mod:Mod X.K X.mg X.base
 kind:X.env.scope.kind=.function
 glob:X.env.globals=QQ
 blt:X.env.builtins=QR
 above:X.s₀.heap.objs.size<=X.env.locals
 inj:∀x y c,X.env.cells.lookup x=some c->X.env.cells.lookup y=some c->x=y
 has:∀x,(X.env.kindOf x=some .cell\/X.env.kindOf x=some .free)->∃c,X.env.cells.lookup x=some c
 cab:∀x c,X.fn x=true->X.env.cells.lookup x=some c->X.s₀.heap.objs.size<=c
 hd:X.calm=true->X.A.handled=none
 frames:X.A.frames=some X.stack
 stk:X.stack=X.outer\/(X.stack=X.env::X.outer/\X.env.frame=some X.env.locals)
 exf:∀b∈X.ex,b≠X.env.locals/\∀x c,X.env.cells.lookup x=some c->c≠b
 bs:∀b o,X.base.get? b=some o->X.s₀.heap.get? b=some o/\X.H₀ b=none
 bsz:X.base.objs.size<=X.s₀.heap.objs.size
 noex:∀b o,X.base.get? b=some o->b∉X.ex
 exfs:∀b∈X.ex,b∉X.fs
 funs:X.s₀.heap.FunFrames X.base X.outer
 frf:∀b∈X.fs,X.H₀ b=none
structure Inv(X:Cx)(pins:List (QL×Obj))(σ:List (Option V))(H:Hp)(s:QU):Prop where
 ok:X.Ok
 os:s.os=X.s₀.os
 bare:AllBare s.gens
 base:Un X.fs X.ex X.H₀ H X.s₀.heap s.heap
 loc:∃m,s.heap.Ns X.env.locals m/\∀(i:Nat)(x:Str)(v:V),X.N[i]?=some x->σ[i]?=some (some v)->Hs X.env.scope x->∃u,RelV v u/\Look X.env s.heap m x u
 cell:∀x c,X.env.cells.lookup x=some c->∃v,s.heap.IsCell c v
 free:H X.env.locals=none
 freeC:∀x c,X.env.cells.lookup x=some c->H c=none
 pin:∀p∈X.pn++pins,s.heap.get? p.1=some p.2/\H p.1=none/\p.1≠X.env.locals/\p.1∉X.fs/\∀v,p.2.data≠.cell v
 hok:oM X.prog X.w H s.heap
 len:σ.length=X.N.length
section
variable{X:Cx}{pins:List (QL×Obj)}{σ:List (Option V)}{H H':Hp}{s:QU}{h':QN}
theorem Cx.Ok.nofr(ok:X.Ok){b:QL}{o:Obj}(e:X.base.get? b=some o):b∉X.fs:=λhb=>by
 have:=(ok.funs.mem hb).1
 rw[e]at this;cases this
theorem Inv.bs(I:Inv X pins σ H s):∀b o,X.base.get? b=some o->s.heap.get? b=some o/\H b=none:=λb o e=>
 ⟨I.base.keep b o (I.ok.bs b o e).1 (I.ok.bs b o e).2 (I.ok.nofr e) (I.ok.noex b o e),I.base.free b o (I.ok.bs b o e).1 (I.ok.bs b o e).2 (I.ok.noex b o e)⟩
theorem Inv.bk(I:Inv X pins σ H s):∀b o,X.base.get? b=some o->s.heap.get? b=some o:=λb o e=>(I.bs b o e).1
theorem Inv.mod(I:Inv X pins σ H s):Mod X.K X.mg X.base:=I.ok.mod
theorem Inv.kIn(I:Inv X pins σ H s):X.K.In s.heap:=I.ok.mod.kin.keeps I.bk
theorem Inv.nolimit(I:Inv X pins σ H s):s.heap.NoLimit:=I.ok.mod.nolimit.keeps I.bk
theorem Inv.lt(I:Inv X pins σ H s):X.env.locals<s.heap.objs.size:=let ⟨_,hn,_⟩:=I.loc;hn.lt
theorem Inv.sz(I:Inv X pins σ H s):X.s₀.heap.objs.size<=s.heap.objs.size:=MS I.ok.above (MT I.lt)
theorem Inv.nofs(I:Inv X pins σ H s){a:QL}(h:s.heap.objs.size<=a):a∉X.fs:=λhb=>by
 obtain⟨_,o,ho,_⟩:=I.ok.funs.mem hb;exact absurd (MP (Qh ho) (MS I.sz h)) (MQ _)
theorem Inv.cne(I:Inv X pins σ H s):∀x c,X.env.cells.lookup x=some c->c≠X.env.locals:=λx c e z=>by
 obtain⟨v,o,ho,hd⟩:=I.cell x c e;obtain⟨m,⟨o',es,ep,ho',hd',_⟩,_⟩:=I.loc;rw[z,ho']at ho;cases ho;rw[hd']at hd;cases hd
theorem Inv.funs(I:Inv X pins σ H s):s.heap.FunFrames X.base X.outer:=by
 have all:∀(l:List Env),(∀b∈frs l,b∈X.fs)->X.s₀.heap.FunFrames X.base l->s.heap.FunFrames X.base l:=by
  intro l
  induction l with
  |nil=>intro _ _;trivial
  |cons env r ih=>
   intro hs hl;obtain⟨hk,⟨L,o,hf,hn,ho,hd⟩,hr⟩:=hl;have hL:L∈X.fs:=hs L (by unfold frs;rw[MU,hf];exact MV);obtain⟨sl,e⟩:=I.base.slot L o ho (I.ok.frf L hL) hL λz=>I.ok.exfs L z hL;exact⟨hk,⟨L,_,hf,hn,e,hd⟩,ih (λb hb=>hs b (by unfold frs;rw[MU,hf];exact MX _ hb)) hr⟩
 exact all X.outer (λ_ hb=>hb) I.ok.funs
theorem Inv.stack(I:Inv X pins σ H s):s.heap.FunFrames X.base X.stack:=by
 rcases I.ok.stk with e|⟨e,hf⟩
 ·rw[e];exact I.funs
 ·rw[e];obtain⟨m,hn,_⟩:=I.loc;refine .cons (by rw[I.ok.kind];decide) hf hn ?_ I.funs;exact Qi (MS I.ok.bsz I.ok.above)
theorem Inv.stkSub(I:Inv X pins σ H s):∀b∈frs X.stack,b∈X.env.locals::X.fs:=λb hb=>by
 rcases I.ok.stk with e|⟨e,hf⟩
 ·rw[e]at hb;exact MX _ hb
 ·rw[e]at hb;unfold frs at hb;rw[MU,hf]at hb;exact hb
theorem Inv.stkFree(I:Inv X pins σ H s):∀b∈frs X.stack,H b=none:=λb hb=>by
 rcases List.mem_cons.mp (I.stkSub b hb)with e|hb
 ·rw[e];exact I.free
 ·obtain⟨_,o,ho,_⟩:=I.ok.funs.mem hb;exact I.base.free b o ho (I.ok.frf b hb) λz=>I.ok.exfs b z hb
theorem Inv.step{g':Array GenState}{t':Nat}{d':Drawn}{ch:List QL}(I:Inv X pins σ H s)
  (hch:∀b∈ch,(b∈X.ex\/X.s₀.heap.objs.size<=b)/\b≠X.env.locals/\(∀x c,X.env.cells.lookup x=some c->c≠b)/\∀p∈X.pn++pins,p.1≠b)
  (keep:∀b o,b≠X.env.locals->b∉X.fs->b∉ch->s.heap.get? b=some o->H b=none->h'.get? b=some o)
  (slot:∀b o,b≠X.env.locals->b∈X.fs->b∉ch->s.heap.get? b=some o->H b=none->∃sl,h'.get? b=some {o with slots:=sl}) (free:∀b o,b∉ch->s.heap.get? b=some o->H b=none->H' b=none)
  (there:∀b o,b∉ch->s.heap.get? b=some o->∃o',h'.get? b=some o')
  (tups:∀b xs,H b=some (.tup xs)->H' b=some (.tup xs)) (frzs:∀b o u,H b=some (.frz o u)->H' b=some (.frz o u)) (tbls:∀b ps,H b=some (.tbl ps)->∃more,H' b=some (.tbl (ps++more)))
  (ns:∀m,s.heap.Ns X.env.locals m->h'.Ns X.env.locals m) (hok:oM X.prog X.w H' h') (hg:AllBare g'):
  Inv X pins σ H' {s with heap:=h',gens:=g',drawn:=d',toks:=t'}:=by
 have neL:∀b o,X.s₀.heap.get? b=some o->b≠X.env.locals:=λb o e=>MR (MP (Qh e) I.ok.above);have neC:∀b o,X.s₀.heap.get? b=some o->b∉X.ex->b∉ch:=λb o e hx hb=>by
  rcases(hch b hb).1 with z|z
  ·exact hx z
  ·exact absurd (MP (Qh e) z) (MQ _)
 have cellK:∀x c,X.env.cells.lookup x=some c->∀v,s.heap.IsCell c v->h'.IsCell c v:=λx c e v ⟨o,ho,hd⟩=>by
  have nch:c∉ch:=λz=>(hch c z).2.2.1 x c e rfl;by_cases hc:c∈X.fs
  ·obtain⟨sl,q⟩:=slot c o (I.cne x c e) hc nch ho (I.freeC x c e);exact⟨_,q,hd⟩
  ·exact⟨o,keep c o (I.cne x c e) hc nch ho (I.freeC x c e),hd⟩
 refine⟨I.ok,I.os,hg,⟨λb o e n hb hx=>?_,λb o e n hb hx=>?_,λb o e n hx=>?_,λb o e hx=>?_,λb xs e=>tups b xs (I.base.tups b xs e),λb o xs e=>frzs b o xs (I.base.frzs b o xs e),λb ps e=>?_⟩,?_,λx c e=>?_,?_,λx c e=>?_,λp hp=>?_,hok,I.len⟩
 ·exact keep b o (neL b o e) hb (neC b o e hx) (I.base.keep b o e n hb hx) (I.base.free b o e n hx)
 ·obtain⟨sl,e1⟩:=I.base.slot b o e n hb hx;obtain⟨sl',e2⟩:=slot b _ (neL b o e) hb (neC b o e hx) e1 (I.base.free b o e n hx);exact⟨sl',e2⟩
 ·obtain⟨o',e1⟩:=I.base.there b o e hx;exact free b o' (neC b o e hx) e1 (I.base.free b o e n hx)
 ·obtain⟨o',e1⟩:=I.base.there b o e hx;exact there b o' (neC b o e hx) e1
 ·obtain⟨m1,e1⟩:=I.base.tbls b ps e;obtain⟨m2,e2⟩:=tbls b _ e1;exact⟨m1++m2,by rw[e2,Array.append_assoc]⟩
 ·obtain⟨m,hn,hl⟩:=I.loc;refine⟨m,ns m hn,λi x v e1 e2 e3=>?_⟩;obtain⟨u,r,l⟩:=hl i x v e1 e2 e3;refine⟨u,r,?_⟩;rcases l with l|⟨k,c,e,z⟩
  ·exact .inl l
  ·exact .inr ⟨k,c,e,cellK x c e _ z⟩
 ·obtain⟨v,z⟩:=I.cell x c e;exact⟨v,cellK x c e v z⟩
 ·obtain⟨m,⟨o,_,_,ho,_⟩,_⟩:=I.loc;exact free _ o (λz=>(hch _ z).2.1 rfl) ho I.free
 ·obtain⟨v,o,ho,hd⟩:=I.cell x c e;exact free c o (λz=>(hch c z).2.2.1 x c e rfl) ho (I.freeC x c e)
 ·obtain⟨e,n,ne,nf,d⟩:=I.pin p hp;have nch:p.1∉ch:=λz=>(hch p.1 z).2.2.2 p hp rfl;exact⟨keep p.1 p.2 ne nf nch e n,free p.1 p.2 nch e n,ne,nf,d⟩
theorem Inv.un{t':Nat}(I:Inv X pins σ H s)(u:Un X.fs [] H H' s.heap h')(hok:oM X.prog X.w H' h'):Inv X pins σ H' {s with heap:=h',toks:=t'}:=by
 obtain⟨m,⟨o,es,ep,ho,r⟩,_⟩:=id I.loc;obtain⟨sl,hL⟩:=u.any ho I.free (by simp);exact I.step (g':=s.gens) (d':=s.drawn) (ch:=[]) (λ_ z=>nomatch z) (λb o _ hb _ e n=>u.keep b o e n hb (by simp)) (λb o _ hb _ e n=>u.slot b o e n hb (by simp)) (λb o _ e n=>u.free b o e n (by simp)) (λb o _ e=>u.there b o e (by simp)) u.tups u.frzs u.tbls (λm' hm=>by
  obtain⟨o',es',ep',ho',r'⟩:=hm;rw[ho]at ho';cases ho';exact⟨_,es',ep',hL,r'⟩) hok I.bare
theorem Inv.call{g':Array GenState}{t':Nat}{d':Drawn}{ch:List QL}(I:Inv X pins σ H s)(u:Un (frs X.stack) ch H H' s.heap h')(hok:oM X.prog X.w H' h')(hg:AllBare g')
  (hch:∀b∈ch,(b∈X.ex\/X.s₀.heap.objs.size<=b)/\b≠X.env.locals/\(∀x c,X.env.cells.lookup x=some c->c≠b)/\∀p∈X.pn++pins,p.1≠b):
  Inv X pins σ H' {s with heap:=h',gens:=g',drawn:=d',toks:=t'}:=by
 obtain⟨m,⟨o,es,ep,ho,r⟩,_⟩:=id I.loc;obtain⟨sl,hL⟩:=u.any ho I.free λz=>(hch _ z).2.1 rfl;exact I.step (ch:=ch) hch (λb o hL hb hc e n=>u.keep b o e n (λz=>(List.mem_cons.mp (I.stkSub b z)).elim hL hb) hc) (λb o _ _ hc e n=>u.any e n hc) (λb o hc e n=>u.free b o e n hc) (λb o hc e=>u.there b o e hc) u.tups u.frzs u.tbls (λm' hm=>by
  obtain⟨o',es',ep',ho',r'⟩:=hm;rw[ho]at ho';cases ho';exact⟨_,es',ep',hL,r'⟩) hok hg
theorem Inv.turned{t':Nat}{it:QL}(I:Inv X pins σ H s)(k:∀b o,b≠it->s.heap.get? b=some o->h'.get? b=some o)(hn:H it=none)(hL:it≠X.env.locals)
  (h1:it∈X.ex\/X.s₀.heap.objs.size<=it) (h2:∀x c,X.env.cells.lookup x=some c->c≠it) (h3:∀p∈X.pn++pins,p.1≠it):Inv X pins σ H {s with heap:=h',toks:=t'}:=by
 have nit:∀b u,H b=some u->b≠it:=λb u e z=>by rw[z,hn]at e;cases e
 refine I.step (g':=s.gens) (d':=s.drawn) (ch:=[it]) (λb hb=>?_) (λb o _ _ hc e _=>k b o (λz=>hc (by simp[z])) e) (λb o _ _ hc e _=>⟨o.slots,k b o (λz=>hc (by simp[z])) e⟩) (λ_ _ _ _ n=>n)
  (λb o hc e=>⟨o,k b o (λz=>hc (by simp[z])) e⟩) (λ_ _ e=>e) (λ_ _ _ e=>e) (λb ps e=>⟨#[],by rw[e];simp⟩) (λm hm=>?_) (λb u e=>?_) I.bare
 ·have e:b=it:=by simpa using hb
  subst e;exact⟨h1,hL,h2,h3⟩
 ·obtain⟨o,es,ep,ho,r⟩:=hm;exact⟨o,es,ep,k _ o (Ne.symm hL) ho,r⟩
 ·refine(I.hok b u e).stay (λc v hc q=>k c v ?_ q) (λ_ q=>q) λ_ _ q=>q;rcases hc with z|z
  ·rw[z];exact nit b u e
  ·exact nit c _ z
theorem Inv.tok(I:Inv X pins σ H s)(t:Nat):Inv X pins σ H {s with toks:=t}:=I.un (h':=s.heap) (t':=t) Un.refl I.hok
theorem Inv.kept{t':Nat}(I:Inv X pins σ H s)(k:∀b u,s.heap.get? b=some u->h'.get? b=some u):Inv X pins σ H {s with heap:=h',toks:=t'}:=I.un (Un.kept k) (I.hok.kept k)
theorem Inv.laid{a:QL}{o:HO}{t':Nat}(I:Inv X pins σ H s)(k:∀b u,s.heap.get? b=some u->h'.get? b=some u)(hp:s.heap.objs.size<=a)(new:cM X.prog X.w (upd H a o) h' a o):
  Inv X pins σ (upd H a o) {s with heap:=h',toks:=t'}:=I.un (Un.laid k hp (I.hok.fresh hp)) (I.hok.laid k hp new)
theorem Inv.write{x e:QL}{o:HO}{t':Nat}(I:Inv X pins σ H s)(mu:II (H x))(he:e=x\/H e=some (.own x))(k:∀b u,b≠e->s.heap.get? b=some u->h'.get? b=some u)(heo:∃u,h'.get? e=some u)
  (new:cM X.prog X.w (upd H x o) h' x o):Inv X pins σ (upd H x o) {s with heap:=h',toks:=t'}:=I.un (Un.write mu he k heo) (I.hok.write mu he k heo new)
theorem Inv.pins_of{pins':List (QL×Obj)}(I:Inv X pins σ H s)(h:∀p∈pins',s.heap.get? p.1=some p.2/\H p.1=none/\p.1≠X.env.locals/\p.1∉X.fs/\∀v,p.2.data≠.cell v):Inv X pins' σ H s:=
 ⟨I.ok,I.os,I.bare,I.base,I.loc,I.cell,I.free,I.freeC,λp hp=>(List.mem_append.mp hp).elim (λz=>I.pin p (MY _ z)) (h p),I.hok,I.len⟩
theorem wH{N:List Str}(hN:N.Nodup){i j:Nat}{x:Str}(a:N[i]?=some x)(b:N[j]?=some x):i=j:=by
 obtain⟨h1,e1⟩:=List.getElem?_eq_some_iff.mp a;obtain⟨h2,e2⟩:=List.getElem?_eq_some_iff.mp b;exact(List.getElem_inj hN).mp (e1.trans e2.symm)
theorem uL{M:Model}{A:QT}{E:QI->QU->Prop}{i:Nat}{x:Str}{v:V}{u:QI}{Q:Unit->QU->Prop}(I:Inv X pins σ H s)(hN:X.N.Nodup)(hi:X.N[i]?=some x)(hx:Loc X.env.scope x)(r:RelV v u)
  (h:∀s',Inv X pins (σ.set i (some v)) H s'->(∃a,Qj a s.heap s'.heap/\(a=X.env.locals\/X.env.cells.lookup x=some a))->Q () s') (hf:X.fn x=true\/X.env.scope.names.lookup x=some .local:=by first|exact .inl rfl|exact .inr rfl|assumption):QW M A (storeName X.env x u) Q E s:=by
 obtain⟨m,hn,hl⟩:=id I.loc;have hcls:(X.env.scope.kind==.class||(X.env.scope.kind==.module&&X.env.locals !=X.env.globals))=false:=by rw[I.ok.kind];rfl
 have hiσ:i<σ.length:=by rw[I.len];exact(List.getElem?_eq_some_iff.mp hi).1
 have cne:=I.cne;have tracked:∀{a:QL}{h':QN},(∃o,s.heap.get? a=some o/\H a=none)->Qj a s.heap h'->oM X.prog X.w H h':=λ{a h'} ha hs b ob e=>by
  obtain⟨_,_,hfree⟩:=ha;refine(I.hok b ob e).stay (λc w' hc q=>(hs.2 c ?_).trans q) (λ_ q=>q) λ_ _ q=>q;rintro rfl;rcases hc with rfl|hc
  ·rw[hfree]at e;cases e
  ·rw[hfree]at hc;cases hc
 rcases hx with hk|hk
 ·refine wpAny_storeName_local hk hn (λh' hn' hs=>?_) hcls;obtain⟨oL,_,_,hoL,_⟩:=id hn;refine h _ ⟨I.ok,I.os,I.bare,⟨λb o e n hb hx=>?_,λb o e n hb hx=>?_,I.base.free,λb o e hx=>?_,I.base.tups,I.base.frzs,I.base.tbls⟩,⟨_,hn',λj y v' e1 e2 e3=>?_⟩,λy c e=>?_,I.free,I.freeC,λp hp=>?_,tracked ⟨oL,hoL,I.free⟩ hs,by simpa using I.len⟩ ⟨_,hs,.inl rfl⟩
  ·exact(hs.2 b (MR (MP (Qh e) I.ok.above))).trans (I.base.keep b o e n hb hx)
  ·obtain⟨sl,e1⟩:=I.base.slot b o e n hb hx;exact⟨sl,(hs.2 b (MR (MP (Qh e) I.ok.above))).trans e1⟩
  ·obtain⟨o',e1⟩:=I.base.there b o e hx;exact⟨o',(hs.2 b (MR (MP (Qh e) I.ok.above))).trans e1⟩
  ·by_cases hj:j=i
   ·subst hj;rw[hi]at e1;cases e1;rw[MZ hiσ]at e2;cases e2;exact⟨u,r,.inl ⟨hk,by simp⟩⟩
   ·rw[M0 (Ne.symm hj)]at e2;obtain⟨u',r',q⟩:=hl j y v' e1 e2 e3;refine⟨u',r',?_⟩;rcases q with⟨k,e⟩|⟨k,c,e,z⟩
    ·refine .inl ⟨k,?_⟩
     have:y≠x:=λe=>hj (wH hN e1 (e ▸ hi))
     simp[this,e]
    ·exact .inr ⟨k,c,e,z.sameBut hs (cne y c e)⟩
  ·obtain⟨w',z⟩:=I.cell y c e;exact⟨w',z.sameBut hs (cne y c e)⟩
  ·obtain⟨e,n,ne,nf,d⟩:=I.pin p hp;exact⟨(hs.2 p.1 ne).trans e,n,ne,nf,d⟩
 ·have hfn:X.fn x=true:=by
   rcases hf with z|z
   ·exact z
   ·rw[z]at hk;cases hk
  obtain⟨c,hc⟩:=I.ok.has x (.inl hk);obtain⟨w',z⟩:=I.cell x c hc;refine wpAny_storeName_cell I.ok.kind hk hc z (λh' hc' hs=>?_);obtain⟨oc,hoc,hocd⟩:=id z;refine h {s with heap:=h'} ⟨I.ok,I.os,I.bare,⟨λb o e n hb hx=>?_,λb o e n hb hx=>?_,I.base.free,λb o e hx=>?_,I.base.tups,I.base.frzs,I.base.tbls⟩,⟨m,hn.sameBut hs (Ne.symm (cne x c hc)),λj y v' e1 e2 e3=>?_⟩,λy c' e=>?_,I.free,I.freeC,λp hp=>?_,tracked ⟨oc,hoc,I.freeC x c hc⟩ hs,by simpa using I.len⟩ ⟨c,hs,.inr hc⟩
  ·exact(hs.2 b (MR (MP (Qh e) (I.ok.cab x c hfn hc)))).trans (I.base.keep b o e n hb hx)
  ·obtain⟨sl,e1⟩:=I.base.slot b o e n hb hx;exact⟨sl,(hs.2 b (MR (MP (Qh e) (I.ok.cab x c hfn hc)))).trans e1⟩
  ·obtain⟨o',e1⟩:=I.base.there b o e hx;exact⟨o',(hs.2 b (MR (MP (Qh e) (I.ok.cab x c hfn hc)))).trans e1⟩
  ·by_cases hj:j=i
   ·subst hj;rw[hi]at e1;cases e1;rw[MZ hiσ]at e2;cases e2;exact⟨u,r,.inr ⟨.inl hk,c,hc,hc'⟩⟩
   ·rw[M0 (Ne.symm hj)]at e2;obtain⟨u',r',q⟩:=hl j y v' e1 e2 e3;refine⟨u',r',?_⟩;rcases q with q|⟨k,c',e,z'⟩
    ·exact .inl q
    ·refine .inr ⟨k,c',e,z'.sameBut hs ?_⟩;rintro rfl;exact hj (wH hN e1 (I.ok.inj _ _ _ e hc ▸ hi))
  ·by_cases hcc:c'=c
   ·subst hcc;exact⟨_,hc'⟩
   ·obtain⟨w2,z2⟩:=I.cell y c' e;exact⟨w2,z2.sameBut hs hcc⟩
  ·obtain⟨e,n,ne,nf,d⟩:=I.pin p hp;refine⟨(hs.2 p.1 ?_).trans e,n,ne,nf,d⟩;intro q;rw[q,hoc]at e;have q':oc=p.2:=Option.some.inj e;exact d w' (by rw[<-q'];exact hocd)
theorem xh{M:Model}{A:QT}{E:QI->QU->Prop}{i:Nat}{x:Str}{v:V}{u:QI}{Q:Unit->QU->Prop}(I:Inv X pins σ H s)(hN:X.N.Nodup)(hi:X.N[i]?=some x)(hx:Loc X.env.scope x)(r:RelV v u)
  (h:∀s',Inv X pins (σ.set i (some v)) H s'->Q () s') (hf:X.fn x=true\/X.env.scope.names.lookup x=some .local:=by first|exact .inl rfl|exact .inr rfl|assumption):QW M A (storeName X.env x u) Q E s:=
 uL I hN hi hx r (λs' I' _=>h s' I') hf
theorem Inv.call'{s':QU}{ch:List QL}(I:Inv X pins σ H s)(ho:s'.os=s.os)(u:Un (frs X.stack) ch H H' s.heap s'.heap)(hok:oM X.prog X.w H' s'.heap)(hg:AllBare s'.gens)
  (hch:∀b∈ch,(b∈X.ex\/X.s₀.heap.objs.size<=b)/\b≠X.env.locals/\(∀x c,X.env.cells.lookup x=some c->c≠b)/\∀p∈X.pn++pins,p.1≠b):Inv X pins σ H' s':=by
 obtain⟨h',g',d',t',o'⟩:=s';have e:o'=s.os:=ho;subst e;exact I.call (g':=g') (t':=t') (d':=d') u hok hg hch
end
abbrev XK:=QI->Option QL->Hp->Prop
abbrev St:=List (Option V)
abbrev VK:=V->Hp->Prop
abbrev TE:=St->Hp->VK->Prop
abbrev TT:=St->Hp->(Bool->Hp->Prop)->Prop
abbrev TA:=St->Hp->(List V->Hp->Prop)->Prop
structure Ends where
 nx:St->Hp->Prop
 rt:VK
 bk:St->Hp->Prop:=λ_ _=>False
 ct:St->Hp->Prop:=λ_ _=>False
abbrev TS:=Ends->St->Hp->Prop
def EP(X:Cx)(pins:List (QL×Obj))(σ:St)(Q:VK)(u:QI)(s':QU):Prop:=∃v H',Inv X pins σ H' s'/\RelV v u/\Q v H'
def TP(X:Cx)(pins:List (QL×Obj))(σ:St)(Q:Bool->Hp->Prop)(b:Bool)(s':QU):Prop:=∃H',Inv X pins σ H' s'/\Q b H'
def AP(X:Cx)(pins:List (QL×Obj))(σ:St)(Q:List V->Hp->Prop)(us:List QI)(s':QU):Prop:=∃vs H',Inv X pins σ H' s'/\Vals vs us/\Q vs H'
def SP(X:Cx)(pins:List (QL×Obj))(D:Ends)(f:Flow)(s':QU):Prop:=
 match f with
 |.next=>∃σ' H',Inv X pins σ' H' s'/\D.nx σ' H'
 |.brk=>∃σ' H',Inv X pins σ' H' s'/\D.bk σ' H'
 |.cont=>∃σ' H',Inv X pins σ' H' s'/\D.ct σ' H'
 |.ret u=>∃v σ' H',Inv X pins σ' H' s'/\RelV v u/\D.rt v H'
def PE(X:Cx)(e:QX)(t:TE):Prop:=
 ∀(pins:List (QL×Obj))(s:QU)(σ:St)(H:Hp)(Q:VK),Inv X pins σ H s->t σ H Q->QW (model X.prog X.w) X.A (eval e X.env) (EP X pins σ Q) X.xe s
def PT(X:Cx)(e:QX)(t:TT):Prop:=
 ∀(pins:List (QL×Obj))(s:QU)(σ:St)(H:Hp)(Q:Bool->Hp->Prop),Inv X pins σ H s->t σ H Q->QW (model X.prog X.w) X.A (isTrue e X.env (eval e X.env)) (TP X pins σ Q) X.xe s
def PW(X:Cx)(e:QX)(t:TT):Prop:=
 ∀(whole:Sem QI)(pins:List (QL×Obj))(s:QU)(σ:St)(H:Hp)(Q:Bool->Hp->Prop),Inv X pins σ H s->t σ H Q->QW (model X.prog X.w) X.A (isTrue e X.env whole) (TP X pins σ Q) X.xe s
theorem PW.pt{X:Cx}{e:QX}{t:TT}(h:PW X e t):PT X e t:=h _
def PA(X:Cx)(es:List QX)(t:TA):Prop:=
 ∀(pos:Pos)(pins:List (QL×Obj))(s:QU)(σ:St)(H:Hp)(Q:List V->Hp->Prop),Inv X pins σ H s->t σ H Q->QW (model X.prog X.w) X.A (spliced (backTo pos (QY es X.env))) (AP X pins σ Q) X.xe s
def PS(X:Cx)(st:QZ)(t:TS):Prop:=
 ∀(pins:List (QL×Obj))(s:QU)(σ:St)(H:Hp)(D:Ends),Inv X pins σ H s->t D σ H->QW (model X.prog X.w) X.A (exec st X.env) (SP X pins D) X.xe s
def AY(X:Cx)(st:List QZ)(t:TS):Prop:=
 ∀(pins:List (QL×Obj))(s:QU)(σ:St)(H:Hp)(D:Ends),Inv X pins σ H s->t D σ H->QW (model X.prog X.w) X.A (execs st X.env) (SP X pins D) X.xe s
theorem eQ{α:Type}{t:Sem α}{Q Q':α->QU->Prop}{M:Model}{A:QT}{E:QI->QU->Prop}{s:QU}(h:QW M A t Q E s)(hQ:∀a s,Q a s->Q' a s):QW M A t Q' E s:=Q0 h hQ λ_ _ x=>x
section
variable{X:Cx}
def xn(i:Nat):TE:=λσ H Q=>∃v,σ[i]?=some (some v)/\Q v H
def tC(v:V):TE:=λ_ H Q=>Q v H
theorem G9{i:Nat}{x:Str}{pos:Pos}(hN:X.N[i]?=some x)(hv:Hs X.env.scope x)(hd:(x==("__debug__":Str))=false:=by decide)(hcd:(x==("__classdict__":Str))=false:=by decide):PE X (.Name x pos) (xn i):=by
 intro pins s σ H Q I h;obtain⟨v,e,h⟩:=h;obtain⟨m,hn,hl⟩:=I.loc;obtain⟨u,r,l⟩:=hl i x v hN e hv;have fin:EP X pins σ Q u s:=⟨v,H,I,r,h⟩
 rcases l with⟨hk,hm⟩|⟨hk,c,hc,hcell⟩
 ·exact Q1 (wpAny_loadName_local I.ok.kind hk hn hm fin) hd
 ·rcases hk with hk|hk
  ·exact Q1 (wpAny_loadName_cell I.ok.kind hk hc hcell fin) hd
  ·exact Q1 (wpAny_loadName_free I.ok.kind hk hc hcell fin hcd) hd
theorem Dj{i j pos}:PE X (.Constant (.int i) j pos) (tC (.int i)):=λ_ _ _ H _ I h=>wpAny_Constant_int ⟨.int i,H,I.tok _,⟨_,rfl⟩,h⟩
theorem Ir{b j pos}:PE X (.Constant (.bool b) j pos) (tC (.bl b)):=λ_ _ _ H _ I h=>Constant_bool ⟨.bl b,H,I,rfl,h⟩
theorem Gq{x j pos}:PE X (.Constant (.str x) j pos) (tC (.str x)):=λ_ _ _ H _ I h=>Calls.Constant_str ⟨.str x,H,I.tok _,⟨_,rfl⟩,h⟩
def Gl(X:Cx)(x:Str):Prop:=X.env.kindOf x=some .globalImplicit
theorem zx{E:QI->QU->Prop}{pins:List (QL×Obj)}{s:QU}{σ:St}{H:Hp}{x:Str}{u:QI}{pos:Pos}{Q:QI->QU->Prop}(I:Inv X pins σ H s)(hg:Gl X x)(hm:X.mg x=some u)(h:Q u s)
  (hd:(x==("__debug__":Str))=false:=by decide):QW (model X.prog X.w) X.A (eval (.Name x pos) X.env) Q E s:=
 Calls.Name_function_global I.ok.kind hg (Calls.loadGlobal_global (by rw[I.ok.glob];exact I.mod.glob.keeps I.bk) hm h) hd
theorem lB{E:QI->QU->Prop}{pins:List (QL×Obj)}{s:QU}{σ:St}{H:Hp}{x:Str}{u:QI}{pos:Pos}{Q:QI->QU->Prop}(I:Inv X pins σ H s)(hg:Gl X x)(hm:X.mg x=none)(hv:QS x=some u)(h:Q u s)
  (hn:x≠"__name__":=by decide) (hd:(x==("__debug__":Str))=false:=by decide):QW (model X.prog X.w) X.A (eval (.Name x pos) X.env) Q E s:=by
 obtain⟨mb,h1,h2⟩:=I.mod.blt;exact Calls.Name_function_global I.ok.kind hg (Calls.loadGlobal_builtin (by rw[I.ok.glob];exact I.mod.glob.keeps I.bk) hm (by rw[I.ok.blt];exact h1.keeps I.bk) ((h2 x hn).trans hv) h) hd
theorem Ey{x:Str}{v:V}{u:QI}{pos:Pos}(hg:Gl X x)(hm:X.mg x=none)(hv:QS x=some u)(r:RelV v u)(hn:x≠"__name__":=by decide)(hd:(x==("__debug__":Str))=false:=by decide):PE X (.Name x pos) (tC v):=
 λ_ _ _ H _ I h=>lB I hg hm hv ⟨v,H,I,r,h⟩ hn hd
variable{a b:QX}{ta tb:TE}{pos:Pos}
def tB(t:TE):TT:=λσ H Q=>t σ H λx H1=>∃c,x=.bl c/\Q c H1
variable{tA tB':TT}{rest:List QX}
def L8(t u:TT):TT:=λσ H Q=>t σ H λc H1=>if c=true then u σ H1 Q else Q false H1
def Mv(t u:TT):TT:=λσ H Q=>t σ H λc H1=>if c=true then Q true H1 else u σ H1 Q
def Lc(t:TT):TT:=λσ H Q=>t σ H λc H1=>Q (!c) H1
theorem Ea(ha:PT X a tA):PW X (.BoolOp .And [a] pos) tA:=by
 intro wh pins s σ H Q I h;refine isTrue_and (eQ (ha pins s σ H Q I h) λc s1 e=>?_);cases c with
 |true=>exact isTrue_and_nil e
 |false=>exact e
theorem Gz(ha:PT X a tA):PW X (.BoolOp .Or [a] pos) tA:=by
 intro wh pins s σ H Q I h;refine isTrue_or (eQ (ha pins s σ H Q I h) λc s1 e=>?_);cases c with
 |false=>exact isTrue_or_nil e
 |true=>exact e
theorem Hk(ha:PT X a tA)(hb:PW X (.BoolOp .And (b::rest) pos) tB'):PW X (.BoolOp .And (a::b::rest) pos) (L8 tA tB'):=by
 intro wh pins s σ H Q I h;refine isTrue_and (eQ (ha pins s σ H _ I h) λc s1 ⟨H1,I1,q1⟩=>?_);cases c with
 |true=>exact hb wh pins s1 σ H1 Q I1 q1
 |false=>exact⟨H1,I1,q1⟩
theorem IR(ha:PT X a tA)(hb:PW X (.BoolOp .Or (b::rest) pos) tB'):PW X (.BoolOp .Or (a::b::rest) pos) (Mv tA tB'):=by
 intro wh pins s σ H Q I h;refine isTrue_or (eQ (ha pins s σ H _ I h) λc s1 ⟨H1,I1,q1⟩=>?_);cases c with
 |true=>exact⟨H1,I1,q1⟩
 |false=>exact hb wh pins s1 σ H1 Q I1 q1
theorem HI(ha:PT X a tA):PT X (.UnaryOp .Not a pos) (Lc tA):=by
 intro pins s σ H Q I h;exact isTrue_not (ha pins s σ H (λc H1=>Q (!c) H1) I h)
def IQ(ta tb:TE):TE:=λσ H Q=>ta σ H λx H1=>∃c,x=.bl c/\if c=true then tb σ H1 Q else Q (.bl false) H1
theorem GC{op}{t:TE}(h:PE X a t):PE X (.BoolOp op [a] pos) t:=λpins s σ H Q I hw=>BoolOp_one (h pins s σ H Q I hw)
theorem Ht(ha:PE X a ta)(hb:PE X (.BoolOp .And (b::rest) pos) tb):PE X (.BoolOp .And (a::b::rest) pos) (IQ ta tb):=by
 intro pins s σ H Q I h;refine BoolOp_and (eQ (ha pins s σ H _ I h) λv s1 ⟨x,H1,I1,r1,q1⟩=>?_);obtain⟨c,rfl,q1⟩:=q1;cases r1;refine Q2 ?_;cases c with
 |true=>exact hb pins s1 σ H1 Q I1 q1
 |false=>exact⟨.bl false,H1,I1,rfl,q1⟩
end
def n0(K:PD)(H:Hp)(a:QL)(xs:List V):Prop:=
 Rd H a (.lst xs) \/
  ∃(o:Obj)(its:Array QI)(n:Nat),K.lookup a=some o/\o.cls=.type "list"/\o.dict=none/\o.data=.seq its n/\its.size<=QO/\Vals xs its.toList
def pY(K:PD)(H:Hp)(a:QL)(xs:List V):Prop:=
 Rd H a (.tup xs) \/
  ∃(o:Obj)(its:Array QI)(n:Nat),K.lookup a=some o/\o.cls=.type "tuple"/\o.data=.seq its n/\its.size<=QO/\Vals xs its.toList
def LZ:QI->Option V
 |.none=>some .non
 |.bool b=>some (.bl b)
 |.int i _=>some (.int i)
 |.str x _=>some (.str x)
 |.bytes b _=>some (.byt b)
 |.float b _=>some (.flt b)
 |.ref a=>some (.ref a)
 |.type n=>some (.ty n)
 |_=>none
theorem RelV.abs{x:V}{u:QI}(r:RelV x u):LZ u=some x:=by
 cases x with
 |non=>cases r;rfl
 |bl _=>cases r;rfl
 |int _=>obtain⟨t,rfl⟩:=r;rfl
 |str _=>obtain⟨t,rfl⟩:=r;rfl
 |byt _=>obtain⟨t,rfl⟩:=r;rfl
 |flt _=>obtain⟨t,rfl⟩:=r;rfl
 |ref _=>cases r;rfl
 |ty _=>cases r;rfl
theorem RelV.inj{x y:V}{u:QI}(r:RelV x u)(q:RelV y u):x=y:=Option.some.inj (r.abs.symm.trans q.abs)
theorem Vals.inj:∀{xs ys:List V}{us:List QI},Vals xs us->Vals ys us->xs=ys
 |_,_,_,.nil,.nil=>rfl
 |_,_,_,.cons r t,.cons r' t'=>by rw[r.inj r',Vals.inj t t']
section
variable{X:Cx}{pins:List (QL×Obj)}{σ:St}{H:Hp}{s:QU}{a:QL}{xs ys:List V}
theorem n0.of{K:PD}(h:H a=some (.lst xs)):n0 K H a xs:=.inl (.inl h)
theorem pY.of{K:PD}(h:H a=some (.tup xs)):pY K H a xs:=.inl (.inl h)
theorem Inv.list(I:Inv X pins σ H s)(h:n0 X.K H a xs):∃its:List QI,Vals xs its/\PlainL s.heap a its.toArray/\xs.length<=QO:=by
 rcases h with h|⟨o,its,n,hk,hc,hd,hs,hz,r⟩
 ·obtain⟨z,its,n,r,e⟩:=h.ok I.hok;exact⟨its,r,⟨_,n,e,rfl,rfl,rfl⟩,z⟩
 ·refine⟨its.toList,r,⟨o,n,I.kIn a o hk,hc,hd,by simpa using hs⟩,?_⟩;have e:=r.length;simp only[Array.length_toList]at e;omega
theorem Inv.tuple(I:Inv X pins σ H s)(h:pY X.K H a xs):∃its:List QI,Vals xs its/\QP s.heap a its.toArray/\xs.length<=QO:=by
 rcases h with h|⟨o,its,n,hk,hc,hs,hz,r⟩
 ·obtain⟨z,its,r,p⟩:=h.ok I.hok;exact⟨its,r,p,z⟩
 ·refine⟨its.toList,r,⟨o,I.kIn a o hk,hc,n,by simpa using hs⟩,?_⟩;have e:=r.length;simp only[Array.length_toList]at e;omega
theorem Inv.list_inj(I:Inv X pins σ H s)(h:n0 X.K H a xs)(h':n0 X.K H a ys):xs=ys:=by
 obtain⟨its,r,⟨o,n,e,_,_,d⟩,_⟩:=I.list h;obtain⟨its',r',⟨o',n',e',_,_,d'⟩,_⟩:=I.list h';rw[e]at e';cases e';rw[d]at d';injection d' with d1 _
 have:its=its':=by simpa using congrArg Array.toList d1
 subst this;exact r.inj r'
theorem Inv.tuple_inj(I:Inv X pins σ H s)(h:pY X.K H a xs)(h':pY X.K H a ys):xs=ys:=by
 obtain⟨its,r,⟨o,e,_,n,d⟩,_⟩:=I.tuple h;obtain⟨its',r',⟨o',e',_,n',d'⟩,_⟩:=I.tuple h';rw[e]at e';cases e';rw[d]at d';injection d' with d1 _
 have:its=its':=by simpa using congrArg Array.toList d1
 subst this;exact r.inj r'
end
section
variable{X:Cx}{st:QZ}{rest:List QZ}{t u:TS}{e:QX}{te:TE}{pos:Pos}
def Ie:TS:=λD σ H=>D.nx σ H
def KQ(t u:TS):TS:=λD σ H=>t {D with nx:=u D} σ H
theorem Ec:AY X [] Ie:=λ_ _ σ H _ I h=>Q3 ⟨σ,H,I,h⟩
theorem Bz(h1:PS X st t)(h2:AY X rest u):AY X (st::rest) (KQ t u):=by
 intro pins s σ H D I h;refine wpAny_execs_cons (eQ (h1 pins s σ H {D with nx:=u D} I h) λf s1 q=>?_);cases f with
 |next=>
  obtain⟨σ',H',I',q⟩:=q;exact h2 pins s1 σ' H' D I' q
 |ret v=>exact q
 |brk=>exact q
 |cont=>exact q
theorem EK(h1:PS X st t):AY X [st] t:=by
 intro pins s σ H D I h;refine wpAny_execs_cons (eQ (h1 pins s σ H D I h) λf s1 q=>?_);cases f with
 |next=>exact Q3 q
 |ret v=>exact q
 |brk=>exact q
 |cont=>exact q
theorem Inv.quiet{pins:List (QL×Obj)}{σ:St}{H:Hp}{s:QU}(I:Inv X pins σ H s):interactive X.env=false:=by simp[interactive,I.ok.kind]
def IT(te:TE):TS:=λD σ H=>te σ H λ_ H1=>D.nx σ H1
theorem zf(he:PE X e te)(hs:swapsWith e none pos.line X.env=pure false:=by rfl):PS X (.Expr e pos) (IT te):=by
 intro pins s σ H D I h;exact wpAny_Expr_any (eQ (he pins s σ H _ I h) λv s1 ⟨x,H1,I1,r1,q1⟩=>⟨σ,H1,I1,q1⟩) I.quiet hs
def Li(te:TE):TS:=λD σ H=>te σ H D.rt
theorem GP(he:PE X e te):PS X (.Return (some e) pos) (Li te):=by
 intro pins s σ H D I h;exact wpAny_Return_some (eQ (he pins s σ H _ I h) λv s1 ⟨x,H1,I1,r1,q1⟩=>⟨x,σ,H1,I1,r1,q1⟩)
def Kt(c:TT)(t u:TS):TS:=λD σ H=>c σ H λb H1=>if b=true then t D σ H1 else u D σ H1
theorem Ib{c:QX}{a b:List QZ}{tc:TT}(hc:PT X c tc)(ha:AY X a t)(hb:AY X b u):PS X (.If c a b pos) (Kt tc t u):=by
 intro pins s σ H D I h;refine wpAny_If (eQ (hc pins s σ H _ I h) λd s1 ⟨H1,I1,q1⟩=>?_);cases d with
 |true=>exact ha pins s1 σ H1 D I1 q1
 |false=>exact hb pins s1 σ H1 D I1 q1
end
abbrev TG:=V->St->Hp->(St->Hp->Prop)->Prop
abbrev Fd:=List V->St->Hp->(St->Hp->Prop)->Prop
def PG(X:Cx)(target:QX)(t:TG):Prop:=
 ∀(pins:List (QL×Obj))(s:QU)(σ:St)(H:Hp)(v:V)(u:QI)(Q:St->Hp->Prop),Inv X pins σ H s->RelV v u->t v σ H Q->
  QW (model X.prog X.w) X.A (assign target X.env u) (λ_ s'=>∃σ' H',Inv X pins σ' H' s'/\Q σ' H') X.xe s
def JG(X:Cx)(ts:List QX)(t:Fd):Prop:=
 ∀(pins:List (QL×Obj))(s:QU)(σ:St)(H:Hp)(vs:List V)(us:List QI)(Q:St->Hp->Prop),Inv X pins σ H s->Vals vs us->t vs σ H Q->
  QW (model X.prog X.w) X.A (assignInOrder ((assignEach ts X.env).map (·.2)) us) (λ_ s'=>∃σ' H',Inv X pins σ' H' s'/\Q σ' H') X.xe s
section
variable{X:Cx}{pos:Pos}
def uM(i:Nat):TG:=λv σ H Q=>Q (σ.set i (some v)) H
theorem DF{i:Nat}{x:Str}(hN:X.N.Nodup)(hi:X.N[i]?=some x)(hx:Loc X.env.scope x)(hf:X.fn x=true\/X.env.scope.names.lookup x=some .local:=by first|exact .inl rfl|exact .inr rfl|assumption):PG X (.Name x pos) (uM i):=by
 intro pins s σ H v u Q I r h;exact wpAny_assign_Name (xh I hN hi hx r (λs' I'=>⟨_,H,I',h⟩) hf)
def L7:Fd:=λvs σ H Q=>vs=[]/\Q σ H
def Jc(t:TG)(u:Fd):Fd:=λvs σ H Q=>∃v r,vs=v::r/\t v σ H λσ' H'=>u r σ' H' Q
theorem DX:JG X [] L7:=by
 intro pins s σ H vs us Q I r h;obtain⟨e,h⟩:=h;subst e;cases r;exact assignInOrder_nil ⟨σ,H,I,h⟩
theorem BI{e:QX}{es:List QX}{t:TG}{u:Fd}(h1:PG X e t)(h2:JG X es u)
  (hs:(assignEach (e::es) X.env).map (·.2)=assign e X.env::(assignEach es X.env).map (·.2):=by rfl):JG X (e::es) (Jc t u):=by
 intro pins s σ H vs us Q I r h;obtain⟨v,vr,e1,h⟩:=h;subst e1;cases r with
 |cons r rr=>
  rw[hs];refine assignInOrder_cons (eQ (h1 pins s σ H _ _ _ I r h) λ_ s1 ⟨σ1,H1,I1,q1⟩=>?_);exact h2 pins s1 σ1 H1 _ _ Q I1 rr q1
def L1(K:PD)(n:Nat)(t:Fd):TG:=λv σ H Q=>∃a xs,v=.ref a/\pY K H a xs/\xs.length=n/\t xs σ H Q
theorem GZ{es:List QX}{k:Nat}{t:Fd}{n:Nat}(hc:X.calm=true)(h:JG X es t)
  (hn:(assignEach es X.env).length=n:=by rfl) (hst:(assignEach es X.env).findIdx? (·.1)=none:=by rfl):PG X (.Tuple es k pos) (L1 X.K n t):=by
 intro pins s σ H v u Q I r hw;obtain⟨a,xs,e1,hq,hl,hw⟩:=hw;subst e1;cases r;obtain⟨its,rv,ht,hz⟩:=I.tuple hq;refine assign_Tuple_tuple (I.ok.hd hc) ht (by simp[hn,<-hl,rv.length]) hst λh' hx=>?_;have I1:Inv X pins σ H {s with heap:=h'}:=I.kept (t':=s.toks) λb o e=>hx b o (MR (Qh e)) e;exact h pins _ σ H xs _ Q I1 (by simpa using rv) hw
def Cj(te:TE)(g:TG):TS:=λD σ H=>te σ H λx H1=>g x σ H1 D.nx
theorem GU{tg e:QX}{te:TE}{g:TG}(he:PE X e te)(hg:PG X tg g)(hs:swapsWithSole [tg] e pos.line X.env=pure false:=by rfl)(hw:swappedStores [tg] e X.env=pure none:=by rfl)
  (h1:(assignEach [tg] X.env).map (·.2)=[assign tg X.env]:=by rfl):PS X (.Assign [tg] e pos) (Cj te g):=by
 intro pins s σ H D I h;refine wpAny_Assign_stores (eQ (he pins s σ H _ I h) λv s1 ⟨x,H1,I1,r1,q1⟩=>?_) hs hw;rw[h1];exact eQ (hg pins s1 σ H1 x v _ I1 r1 q1) λ_ s2 q=>q
theorem yu{i:Nat}{x:Str}{e:QX}{te:TE}{pos':Pos}(hN:X.N.Nodup)(hi:X.N[i]?=some x)(hx:Loc X.env.scope x)(he:PE X e te)(hs:swapsWith e (some (.Name x pos')) pos.line X.env=pure false:=by rfl)(hf:X.fn x=true\/X.env.scope.names.lookup x=some .local:=by first|exact .inl rfl|exact .inr rfl|assumption):
  PS X (.Assign [.Name x pos'] e pos) (Cj te (uM i)):=by
 intro pins s σ H D I h;refine wpAny_Assign_Name (eQ (he pins s σ H _ I h) λv s1 ⟨y,H1,I1,r1,q1⟩=>?_) hs;exact xh I1 hN hi hx r1 (λs2 I2=>⟨_,H1,I2,q1⟩) hf
end
structure It where
 go:Nat->Hp->Prop
 yld:Nat->Hp->V->Hp->Prop
 stop:Nat->Hp->Prop
def tx(X:Cx)(pins:List (QL×Obj))(H:Hp)(b:QL):Prop:=
 H b=none/\b≠X.env.locals/\b∉X.fs/\(b∈X.ex\/X.s₀.heap.objs.size<=b)/\(∀x c,X.env.cells.lookup x=some c->c≠b)/\∀p∈X.pn++pins,p.1≠b
theorem Inv.fpOk{X:Cx}{pins:List (QL×Obj)}{σ:St}{H H':Hp}{s:QU}{b:QL}(I:Inv X pins σ H s)(hb:s.heap.objs.size<=b)(hn:H' b=none):tx X pins H' b:=by
 refine⟨hn,M1 (MP I.lt hb),I.nofs hb,.inr (MS I.sz hb),λx c e z=>?_,λp hp z=>?_⟩
 ·obtain⟨v,q⟩:=I.cell x c e;exact absurd (MP q.lt (by rw[z];exact hb)) (MQ _)
 ·exact absurd (MP (Qh (I.pin p hp).1) (by rw[z];exact hb)) (MQ _)
structure Turn(P:QK)(w:QJ)(K:PD)(tg:QX)(J:It)(fp:List QL)(it:QL)(tn:Nat->QN->Prop):Prop where
 mem:it∈fp
 obj:∀i h,tn i h->∀b∈fp,∃o,h.get? b=some o/\∀v,o.data≠.cell v
 keep:∀i h h',tn i h->(∀b∈fp,∀o,h.get? b=some o->h'.get? b=some o)->tn i h'
 item:∀(X:Cx),X.prog=P->X.w=w->X.K=K->X.calm=true->∀(i:Nat)(pins:List (QL×Obj))(s:QU)(σ:St)(H:Hp)(E:QI->QU->Prop),Inv X pins σ H s->(∀b∈fp,tx X pins H b)->tn i s.heap->J.go i H->
  QW (model P w) X.A (pyNext (.ref it)) (λr s1=>∃u,r=some u/\
   QW (model P w) X.A (letOwnedTupleGo tg (.ref it) u) (λ_ s2=>∃x H',Inv X pins σ H' s2/\RelV x u/\J.yld i H x H'/\tn (i+1) s2.heap/\∀b∈fp,H' b=none) E s1) E s
 done:∀(X:Cx),X.prog=P->X.w=w->X.K=K->X.calm=true->∀(i:Nat)(pins:List (QL×Obj))(s:QU)(σ:St)(H:Hp)(E:QI->QU->Prop),Inv X pins σ H s->(∀b∈fp,tx X pins H b)->tn i s.heap->J.stop i H->
  QW (model P w) X.A (pyNext (.ref it)) (λr s1=>r=none/\Inv X pins σ H s1) E s
 self:∀(A:QT)(i:Nat)(s:QU)(Q:QI->QU->Prop)(E:QI->QU->Prop),tn i s.heap->Q (.ref it) s->QW (model P w) A (pyIter (.ref it)) Q E s
abbrev TI:=St->Hp->(It->Hp->Prop)->Prop
def PIE(X:Cx)(pins:List (QL×Obj))(σ:St)(tg:QX)(R:It->Hp->Prop)(itv:QI)(s2:QU):Prop:=
 ∃(it:QL)(fp:List QL)(tn:Nat->QN->Prop)(J:It)(H':Hp),itv=.ref it/\Inv X pins σ H' s2/\Turn X.prog X.w X.K tg J fp it tn/\tn 0 s2.heap/\(∀b∈fp,tx X pins H' b)/\R J H'
def PI(X:Cx)(tg iter:QX)(wi:TI):Prop:=
 ∀(pins:List (QL×Obj))(s:QU)(σ:St)(H:Hp)(R:It->Hp->Prop),Inv X pins σ H s->wi σ H R->
  QW (model X.prog X.w) X.A (eval iter X.env) (λv s1=>QW (model X.prog X.w) X.A (pyIter v) (PIE X pins σ tg R) X.xe s1) X.xe s
theorem Dw{M:Model}{A:QT}{E:QI->QU->Prop}{s:QU}{tg:QX}{it:QL}{u:QI}{o:Obj}{n:String}{vs:Array QI}{Q:Unit->QU->Prop}(ho:s.heap.get? it=some o)(hc:o.cls=.type n)(hd:o.data=.fields vs)
    (hn:["enumerate","zip","dict_itemiterator","dict_reverseitemiterator","odict_iterator","itertools.zip_longest","itertools.pairwise"].contains n=false) (hQ:Q () s):QW M A (letOwnedTupleGo tg (.ref it) u) Q E s:=by
  unfold letOwnedTupleGo;cases tg<;>first
    |exact Q4 hQ
    | (cases u <;> first
        |exact Q4 hQ
        | (refine Q5 (wpAny_load ho ?_)
           rw[hc,hd];show QW M A (if(["enumerate","zip","dict_itemiterator","dict_reverseitemiterator","odict_iterator","itertools.zip_longest","itertools.pairwise"].contains n&&vs[0]?==some (rawInt _))=true then _ else _) Q E s;rw[if_neg (by intro h;rw[hn,M2]at h;cases h)];exact Q4 hQ))
def KU(K:PD)(a:QL):It:=
 ⟨λi H=>∃xs x,n0 K H a xs/\xs[i]?=some x,λi H x H'=>H'=H/\∀xs,n0 K H a xs->xs[i]?=some x,λi H=>∃xs,n0 K H a xs/\xs.length<=i⟩
def KI(K:PD)(a:QL):It:=
 ⟨λi H=>∃xs x,pY K H a xs/\xs[i]?=some x,λi H x H'=>H'=H/\∀xs,pY K H a xs->xs[i]?=some x,λi H=>∃xs,pY K H a xs/\xs.length<=i⟩
def JH(lo:Int)(n:Nat):It:=⟨λi _=>i<n,λi H x H'=>H'=H/\x=.int (lo+i),λi _=>n<=i⟩
theorem Ag{P:QK}{w:QJ}{K:PD}{tg:QX}(a it:QL):Turn P w K tg (KU K a) [it] it (λi h=>h.IsListIter it a i)where
 mem:=by simp
 obj:=λi h st b hb=>by
  have e:b=it:=by simpa using hb
  subst e;obtain⟨o,e,c,d⟩:=st;exact⟨o,e,λv z=>by rw[d]at z;cases z⟩
 keep:=λi h h' st k=>st.at λo e=>k it (by simp) o e
 item:=by
  intro X hP hw hK hc i pins s σ H E I hf st hg;subst hP hw hK;obtain⟨xs,x,hq,hx⟩:=hg;obtain⟨its,rv,p,hz⟩:=I.list hq;obtain⟨u,hu,ru⟩:=rv.get hx;obtain⟨f0,f1,f2,f3,f4,f5⟩:=hf it (by simp);refine wpAny_pyNext_list_item st p.isList (x:=u) (by simpa using hu) λh' st' sb=>?_;have I1:Inv X pins σ H {s with heap:=h'}:=I.turned (t':=s.toks) (λb o hb e=>(sb.2 b hb).trans e) f0 f1 f3 f4 f5;obtain⟨o,e,c,d⟩:=id st';exact⟨u,rfl,Dw (s:={s with heap:=h'}) e c d (by decide) ⟨x,H,I1,ru,⟨rfl,λys hy=>by rw[I.list_inj hy hq];exact hx⟩,st',λb hb=>(hf b hb).1⟩⟩
 done:=by
  intro X hP hw hK hc i pins s σ H E I hf st hg;subst hP hw hK;obtain⟨xs,hq,hx⟩:=hg;obtain⟨its,rv,p,hz⟩:=I.list hq;obtain⟨f0,f1,f2,f3,f4,f5⟩:=hf it (by simp);have hl:=rv.length;exact wpAny_pyNext_list_end (I.ok.hd hc) st p.isList (by simp;omega) λh' eb=>⟨rfl,I.turned (t':=s.toks) (λb o hb e=>eb b o hb e) f0 f1 f3 f4 f5⟩
 self:=λ_ _ _ _ _ st h=>wpAny_pyIter_listiter st h
theorem ym{P:QK}{w:QJ}{K:PD}{tg:QX}(a it:QL):Turn P w K tg (KI K a) [it] it (λi h=>h.IsTupleIter it a i)where
 mem:=by simp
 obj:=λi h st b hb=>by
  have e:b=it:=by simpa using hb
  subst e;obtain⟨o,e,c,d⟩:=st;exact⟨o,e,λv z=>by rw[d]at z;cases z⟩
 keep:=λi h h' st k=>st.at λo e=>k it (by simp) o e
 item:=by
  intro X hP hw hK hc i pins s σ H E I hf st hg;subst hP hw hK;obtain⟨xs,x,hq,hx⟩:=hg;obtain⟨its,rv,p,hz⟩:=I.tuple hq;obtain⟨u,hu,ru⟩:=rv.get hx;obtain⟨f0,f1,f2,f3,f4,f5⟩:=hf it (by simp);refine wpAny_pyNext_tuple_item st (show s.heap.IsTuple a its.toArray from p) (x:=u) (by simpa using hu) λh' st' sb=>?_;have I1:Inv X pins σ H {s with heap:=h'}:=I.turned (t':=s.toks) (λb o hb e=>(sb.2 b hb).trans e) f0 f1 f3 f4 f5;obtain⟨o,e,c,d⟩:=id st';exact⟨u,rfl,Dw (s:={s with heap:=h'}) e c d (by decide) ⟨x,H,I1,ru,⟨rfl,λys hy=>by rw[I.tuple_inj hy hq];exact hx⟩,st',λb hb=>(hf b hb).1⟩⟩
 done:=by
  intro X hP hw hK hc i pins s σ H E I hf st hg;subst hP hw hK;obtain⟨xs,hq,hx⟩:=hg;obtain⟨its,rv,p,hz⟩:=I.tuple hq;obtain⟨f0,f1,f2,f3,f4,f5⟩:=hf it (by simp);have hl:=rv.length;exact wpAny_pyNext_tuple_end (I.ok.hd hc) st (show s.heap.IsTuple a its.toArray from p) (by simp;omega) λh' eb=>⟨rfl,I.turned (t':=s.toks) (λb o hb e=>eb b o hb e) f0 f1 f3 f4 f5⟩
 self:=λ_ _ _ _ _ st h=>wpAny_pyIter_tupleiter st h
theorem yq{P:QK}{w:QJ}{K:PD}{tg:QX}(it:QL)(lo:Int)(n:Nat):Turn P w K tg (JH lo n) [it] it (λi h=>IsRangeIter h it (lo+(i:Nat)*1) ((n:Int)-(i:Nat)) 1)where
 mem:=by simp
 obj:=λi h st b hb=>by
  have e:b=it:=by simpa using hb
  subst e;exact⟨_,st,λv z=>by
   have z':Data.fields _=Data.cell v:=z;cases z'⟩
 keep:=λi h h' st k=>k it (by simp) _ st
 item:=by
  intro X hP hw hK hc i pins s σ H E I hf st hg;subst hP hw hK;obtain⟨f0,f1,f2,f3,f4,f5⟩:=hf it (by simp);have W:=Walks.range (prog:=X.prog) (w:=X.w) (I.ok.hd hc) it lo 1 n;refine W.item i s _ _ hg st λv h' tk hv st' kk=>?_;obtain⟨t,rfl⟩:=hv;have I1:Inv X pins σ H {s with heap:=h',toks:=tk}:=I.turned (λb o hb e=>kk b o (by simpa using hb) e) f0 f1 f3 f4 f5;refine⟨_,rfl,Dw (s:={s with heap:=h',toks:=tk}) (n:="range_iterator") st' rfl rfl (by decide) ⟨.int (lo+i),H,I1,⟨t,?_⟩,⟨rfl,rfl⟩,st',λb hb=>(hf b hb).1⟩⟩;rw[Int.mul_one]
 done:=by
  intro X hP hw hK hc i pins s σ H E I hf st hg;subst hP hw hK;obtain⟨f0,f1,f2,f3,f4,f5⟩:=hf it (by simp);exact wpAny_pyNext_range_end (I.ok.hd hc) st (by have:n<=i:=hg;omega) λh' eb=>⟨rfl,I.turned (t':=s.toks) (λb o hb e=>eb b o hb e) f0 f1 f3 f4 f5⟩
 self:=λ_ _ _ _ _ st h=>wpAny_pyIter_rangeiter st h
section
variable{X:Cx}{tg:QX}
def Jp(K:PD)(tl:TE):TI:=λσ H R=>tl σ H λx H1=>∃a,x=.ref a/\(∃xs,n0 K H1 a xs)/\R (KU K a) H1
def LO(K:PD)(tl:TE):TI:=λσ H R=>tl σ H λx H1=>∃a,x=.ref a/\(∃xs,pY K H1 a xs)/\R (KI K a) H1
theorem zi{l:QX}{tl:TE}(hl:PE X l tl):PI X tg l (Jp X.K tl):=by
 intro pins s σ H R I h;refine eQ (hl pins s σ H _ I h) λv s1 ⟨x,H1,I1,r1,q1⟩=>?_;obtain⟨a,e,⟨xs,hq⟩,q⟩:=q1;subst e;cases r1;obtain⟨its,rv,p,hz⟩:=I1.list hq;refine Q6 p.isList ?_;refine⟨s1.heap.objs.size,[s1.heap.objs.size],_,_,H1,rfl,I1.kept (t':=s1.toks) λb o e=>Qk _ e,Ag a _,⟨_,Ql _ rfl,rfl,rfl⟩,λb hb=>?_,q⟩;have e:b=s1.heap.objs.size:=by simpa using hb
 subst e;exact I1.fpOk (M3 _) (I1.hok.fresh (M3 _))
theorem Gw{l:QX}{tl:TE}(hl:PE X l tl):PI X tg l (LO X.K tl):=by
 intro pins s σ H R I h;refine eQ (hl pins s σ H _ I h) λv s1 ⟨x,H1,I1,r1,q1⟩=>?_;obtain⟨a,e,⟨xs,hq⟩,q⟩:=q1;subst e;cases r1;obtain⟨its,rv,p,hz⟩:=I1.tuple hq;refine wpAny_pyIter_tuple (show s1.heap.IsTuple a its.toArray from p) ?_;refine⟨s1.heap.objs.size,[s1.heap.objs.size],_,_,H1,rfl,I1.kept (t':=s1.toks) λb o e=>Qk _ e,ym a _,⟨_,Ql _ rfl,rfl,rfl⟩,λb hb=>?_,q⟩;have e:b=s1.heap.objs.size:=by simpa using hb
 subst e;exact I1.fpOk (M3 _) (I1.hok.fresh (M3 _))
theorem xf{pins:List (QL×Obj)}{σ:St}{H:Hp}{s:QU}{R:It->Hp->Prop}{E:QI->QU->Prop}{lo hi:Int}{t u v:Tok}{tk:Nat}(I:Inv X pins σ H s)(h1:-(2^62)<=lo)(h2:lo<2^62)(h3:-(2^62)<=hi)(h4:hi<2^62)
  (q:R (JH lo (hi-lo).toNat) H):QW (model X.prog X.w) X.A (pyIter (.ref s.heap.objs.size)) (PIE X pins σ tg R) E {s with heap:=s.heap.push {cls:=.type "range",data:=.fields #[.int lo t,.int hi u,.int 1 v]},toks:=tk}:=by
 refine wpAny_pyIter_range (IsRange.new ..) (small_one h1 h2 h3 h4) ?_;have I1:Inv X pins σ H {s with heap:=s.heap.push {cls:=.type "range",data:=.fields #[.int lo t,.int hi u,.int 1 v]},toks:=tk}:=I.kept λb o e=>Qk _ e;refine⟨(s.heap.push {cls:=.type "range",data:=.fields #[.int lo t,.int hi u,.int 1 v]}).objs.size,[(s.heap.push {cls:=.type "range",data:=.fields #[.int lo t,.int hi u,.int 1 v]}).objs.size],_,_,H,rfl,
  I1.kept (t':=tk) λb o e=>Qk _ e,yq _ lo (hi-lo).toNat,?_,λb hb=>?_,q⟩
 ·have e1:lo+((0:Nat):Int)*1=lo:=by simp
  have e2:(((hi-lo).toNat:Nat):Int)-((0:Nat):Int)=Builtin.Range.rangeSize lo hi 1:=by rw[rangeSize_one];split<;>omega
  show IsRangeIter _ _ (lo+((0:Nat):Int)*1) ((((hi-lo).toNat:Nat):Int)-((0:Nat):Int)) 1;rw[e1,e2];exact Ql _ rfl
 ·have e:b=(s.heap.push {cls:=.type "range",data:=.fields #[.int lo t,.int hi u,.int 1 v]}).objs.size:=by simpa using hb
  subst e;exact I1.fpOk (M3 _) (I1.hok.fresh (M3 _))
def Iw(ta:TA):TI:=λσ H R=>ta σ H λvs H1=>∃j:Int,vs=[.int j]/\-(2^62)<=j/\j<2^62/\R (JH 0 j.toNat) H1
def Jk(ta:TA):TI:=λσ H R=>ta σ H λvs H1=>∃i j:Int,vs=[.int i,.int j]/\(-(2^62)<=i/\i<2^62/\-(2^62)<=j/\j<2^62)/\R (JH i (j-i).toNat) H1
theorem Bi{a:QX}{ta:TA}{p pos:Pos}(hg:Gl X "range")(hm:X.mg "range"=none)(ha:PA X [a] ta)(hs:QY [a] X.env=[(false,eval a X.env)]:=by rfl):PI X tg (.Call (.Name "range" p) [a] [] pos) (Iw ta):=by
 intro pins s σ H R I h;refine Call_ (lB I hg hm boot_range (Qr (eQ (ha pos pins s σ H _ I h) λus s1 ⟨vs,H1,I1,r1,q1⟩=>?_) hs rfl));obtain⟨j,e,q1,q2,q⟩:=q1;subst e;cases r1 with
 |cons r rr=>
  cases rr;obtain⟨t,rfl⟩:=r;exact call_range_1 (xf I1 ‹0› ‹0› q1 q2 (by simpa using q))
theorem Ad{a b:QX}{ta:TA}{p pos:Pos}(hg:Gl X "range")(hm:X.mg "range"=none)(ha:PA X [a,b] ta)(hs:QY [a,b] X.env=[(false,eval a X.env),(false,eval b X.env)]:=by rfl)(hs2:QY [b] X.env=[(false,eval b X.env)]:=by rfl):
  PI X tg (.Call (.Name "range" p) [a,b] [] pos) (Jk ta):=by
 intro pins s σ H R I h;refine Call_ (lB I hg hm boot_range (Qr (eQ (ha pos pins s σ H _ I h) λus s1 ⟨vs,H1,I1,r1,q1⟩=>?_) (by rw[hs,hs2]) (by rw[hs2];rfl)));obtain⟨i,j,e,⟨q1,q2,q3,q4⟩,q⟩:=q1;subst e;cases r1 with
 |cons r rr=>
  cases rr with
  |cons r' rr=>
   cases rr;obtain⟨t,rfl⟩:=r;obtain⟨t',rfl⟩:=r';exact call_range_2 (xf I1 q1 q2 q3 q4 q)
def KO(wi:TI)(g:TG)(tb:TS):TS:=λD σ H=>wi σ H λJ H1=>∃W:Nat->Nat->St->Hp->Prop,(∃m,W 0 m σ H1)/\∀i m σ H,W i m σ H->
 (J.stop i H/\D.nx σ H)\/(J.go i H/\∃N:St->Hp->Prop,(∀σ' H',N σ' H'->∃m',m'<m/\W (i+1) m' σ' H')/\∀x H',J.yld i H x H'->g x σ H' λσ2 H2=>tb {D with nx:=N,ct:=N,bk:=D.nx} σ2 H2)
def qY(fp:List QL)(h:QN):List (QL×Obj):=fp.filterMap λb=>(h.get? b).map λo=>(b,o)
theorem kO{fp:List QL}{h:QN}{b:QL}{o:Obj}(hb:b∈fp)(e:h.get? b=some o):(b,o)∈qY fp h:=List.mem_filterMap.mpr ⟨b,hb,by rw[e];rfl⟩
theorem Az{fp:List QL}{h:QN}{p:QL×Obj}(hp:p∈qY fp h):p.1∈fp/\h.get? p.1=some p.2:=by
 obtain⟨b,hb,e⟩:=List.mem_filterMap.mp hp;cases q:h.get? b with
 |none=>rw[q]at e;cases e
 |some o=>
  rw[q]at e;have e':(b,o)=p:=Option.some.inj e;subst e';exact⟨hb,q⟩
theorem Inv.pinned{pins:List (QL×Obj)}{σ:St}{H:Hp}{s:QU}{fp:List QL}(I:Inv X pins σ H s)(hf:∀b∈fp,tx X pins H b)(ho:∀b∈fp,∃o,s.heap.get? b=some o/\∀v,o.data≠.cell v):Inv X (pins++qY fp s.heap) σ H s:=
 I.pins_of λp hp=>(List.mem_append.mp hp).elim (λz=>I.pin p (M4 _ z)) λz=>by
  obtain⟨hb,e⟩:=Az z;obtain⟨f0,f1,f2,_⟩:=hf p.1 hb;obtain⟨o,e',d⟩:=ho p.1 hb;rw[e]at e';cases e';exact⟨e,f0,f1,f2,d⟩
theorem Inv.unpinned{pins pl:List (QL×Obj)}{σ:St}{H:Hp}{s:QU}(I:Inv X (pins++pl) σ H s):Inv X pins σ H s:=I.pins_of λp hp=>I.pin p (M4 _ (MY _ hp))
theorem GK{iter:QX}{body:List QZ}{wi:TI}{g:TG}{tb:TS}{pos:Pos}(hp:Q7 (model X.prog X.w) X.A X.env X.xe)(hc:X.calm=true)(hi:PI X tg iter wi)(hg:PG X tg g)(hb:AY X body tb)
  (hs:∀x,Q8 iter X.env x=pure x:=by intro _;rfl):PS X (.For tg iter body [] pos) (KO wi g tb):=by
 intro pins s σ H D I h;refine wpAny_For (eQ (hi pins s σ H _ I h) λv s1 h1=>eQ h1 λitv s2 h2=>?_) hs;obtain⟨it,fp,tn,J,H2,e,I2,T,st2,f2,W,⟨m0,w0⟩,turn⟩:=h2;subst e;have stat:∀{H':Hp},(∀b∈fp,H' b=none)->∀b∈fp,tx X pins H' b:=λhn b hb=>⟨hn b hb,(f2 b hb).2⟩
 refine codeAny_forLoop_any (λn s'=>∃i σ' H',Inv X pins σ' H' s'/\tn i s'.heap/\(∀b∈fp,H' b=none)/\W i n σ' H') ?_ m0 ⟨0,σ,H2,I2,st2,λb hb=>(f2 b hb).1,w0⟩;rintro n s3 ⟨i,σ3,H3,I3,st3,fr3,w3⟩;rcases turn i n σ3 H3 w3 with⟨stop,qn⟩|⟨go,N,hN,step⟩
 ·refine Q9 hp (eQ (T.done X rfl rfl rfl hc i pins s3 σ3 H3 X.xe I3 (stat fr3) st3 stop) λr s4 ⟨hr,I4⟩=>?_);subst hr;exact Q3 ⟨σ3,H3,I4,qn⟩
 ·refine Q9 hp (eQ (T.item X rfl rfl rfl hc i pins s3 σ3 H3 X.xe I3 (stat fr3) st3 go) λr s4 ⟨u,hr,h4⟩=>?_);subst hr;refine Q9 hp (eQ h4 λ_ s5 ⟨x,H5,I5,r5,y5,st5,fr5⟩=>?_);have I5':=I5.pinned (stat fr5) (T.obj _ _ st5);refine Q9 hp (eQ (hg _ s5 σ3 H5 x u _ I5' r5 (step x H5 y5)) λ_ s6 ⟨σ6,H6,I6,q6⟩=>?_);refine Q9 hp (eQ (hb _ s6 σ6 H6 _ I6 q6) λf s7 q7=>?_);have again:∀{σ7:St}{H7:Hp},Inv X (pins++qY fp s5.heap) σ7 H7 s7->N σ7 H7->∃m,m<n/\∃i σ' H',Inv X pins σ' H' s7/\tn i s7.heap/\(∀b∈fp,H' b=none)/\W i m σ' H':=λ{σ7 H7} I7 n7=>by
   obtain⟨m',hm,w7⟩:=hN σ7 H7 n7;refine⟨m',hm,i+1,σ7,H7,I7.unpinned,T.keep _ _ _ st5 λb hb o e=>(I7.pin (b,o) (M4 _ (M4 _ (kO hb e)))).1,λb hb=>?_,w7⟩;obtain⟨o,e,d⟩:=T.obj _ _ st5 b hb;exact(I7.pin (b,o) (M4 _ (M4 _ (kO hb e)))).2.1
  cases f with
  |next=>obtain⟨σ7,H7,I7,n7⟩:=q7;exact again I7 n7
  |cont=>obtain⟨σ7,H7,I7,n7⟩:=q7;exact again I7 n7
  |brk=>obtain⟨σ7,H7,I7,q7⟩:=q7;exact⟨σ7,H7,I7.unpinned,q7⟩
  |ret v=>obtain⟨x7,σ7,H7,I7,r7,q7⟩:=q7;exact⟨x7,σ7,H7,I7.unpinned,r7,q7⟩
end
abbrev R2:=V->V->Hp->VK->Prop
def kY(X:Cx)(f:QI->QI->Sem QI)(r:R2):Prop:=
 ∀(pins:List (QL×Obj))(s:QU)(σ:St)(H:Hp)(x y:V)(v u:QI)(Q:VK),Inv X pins σ H s->RelV x v->RelV y u->r x y H Q->
  QW (model X.prog X.w) X.A (f v u) (EP X pins σ Q) X.xe s
def Kw(X:Cx)(f:QI->Sem QI)(r:V->Hp->VK->Prop):Prop:=
 ∀(pins:List (QL×Obj))(s:QU)(σ:St)(H:Hp)(x:V)(v:QI)(Q:VK),Inv X pins σ H s->RelV x v->r x H Q->
  QW (model X.prog X.w) X.A (f v) (EP X pins σ Q) X.xe s
def dZ(X:Cx)(f:QI)(r:List V->Hp->VK->Prop):Prop:=
 ∀(pins:List (QL×Obj))(s:QU)(σ:St)(H:Hp)(xs:List V)(us:List QI)(Q:VK),Inv X pins σ H s->Vals xs us->r xs H Q->
  QW (model X.prog X.w) X.A (call f us) (EP X pins σ Q) X.xe s
def L4(X:Cx)(r:V->Hp->(Bool->Hp->Prop)->Prop):Prop:=
 ∀(pins:List (QL×Obj))(s:QU)(σ:St)(H:Hp)(x:V)(v:QI)(Q:Bool->Hp->Prop),Inv X pins σ H s->RelV x v->r x H Q->
  QW (model X.prog X.w) X.A (truthy v) (TP X pins σ Q) X.xe s
def IV(r:R2)(ta tb:TE):TE:=λσ H Q=>ta σ H λx H1=>tb σ H1 λy H2=>r x y H2 Q
def Mg(r:V->Hp->VK->Prop)(ta:TE):TE:=λσ H Q=>ta σ H λx H1=>r x H1 Q
def rI(C:Int->Int->Prop)(g:Int->Int->V):R2:=λx y H Q=>∃i j,x=.int i/\y=.int j/\C i j/\Q (g i j) H
def CQ(g:Int->Int->V):R2:=λx y H Q=>∃i j,x=.int i/\y=.int j/\Q (g i j) H
def rU(g:Int->V):V->Hp->VK->Prop:=λx H Q=>∃i,x=.int i/\Q (g i) H
section
variable{X:Cx}{a b c:QX}{ta tb tc:TE}{pos:Pos}
theorem GL(ha:PE X a ta)(hb:PE X b tb){pins:List (QL×Obj)}{s:QU}{σ:St}{H:Hp}{R:V->V->Hp->Prop}(I:Inv X pins σ H s)
  (h:ta σ H λx H1=>tb σ H1 λy H2=>R x y H2) {Q:QI->QU->Prop} {f:QI->QI->Sem QI}
  (hf:∀v u s2 x y H2,Inv X pins σ H2 s2->RelV x v->RelV y u->R x y H2->QW (model X.prog X.w) X.A (f v u) Q X.xe s2):
  QW (model X.prog X.w) X.A (eval a X.env) (λv s₁=>QW (model X.prog X.w) X.A (eval b X.env) (λu s₂=>QW (model X.prog X.w) X.A (f v u) Q X.xe s₂) X.xe s₁) X.xe s:=by
 refine eQ (ha pins s σ H _ I h) λv s1 ⟨x,H1,I1,r1,q1⟩=>?_;refine eQ (hb pins s1 σ H1 _ I1 q1) λu s2 ⟨y,H2,I2,r2,q2⟩=>?_;exact hf v u s2 x y H2 I2 r1 r2 q2
theorem Jh{op:Operator}{r:R2}(ho:kY X (Ra op) r)(ha:PE X a ta)(hb:PE X b tb):PE X (.BinOp a op b pos) (IV r ta tb):=by
 intro pins s σ H Q I h;exact wpAny_BinOp (GL ha hb I h λv u s2 x y H2 I2 rx ry q=>ho pins s2 σ H2 x y v u Q I2 rx ry q)
theorem Iu{op:UnaryOp}{r:V->Hp->VK->Prop}(ho:Kw X (unaryOp op) r)(ha:PE X a ta):PE X (.UnaryOp op a pos) (Mg r ta):=by
 intro pins s σ H Q I h;exact UnaryOp_ (eQ (ha pins s σ H _ I h) λv s1 ⟨x,H1,I1,r1,q1⟩=>ho pins s1 σ H1 x v Q I1 r1 q1)
theorem Ij{f:QI->QI->Sem QI}{C:Int->Int->Prop}{g:Int->Int->Int}
  (rule:∀(i j:Int)(t u:Tok)(s:QU)(Q:QI->QU->Prop)(E:QI->QU->Prop),C i j->Q (.int (g i j) s.toks) {s with toks:=s.toks+1}->QW (model X.prog X.w) X.A (f (.int i t) (.int j u)) Q E s):
  kY X f (rI C λi j=>.int (g i j)):=by
 intro pins s σ H x y v u Q I rx ry h;obtain⟨i,j,rfl,rfl,hc,q⟩:=h;obtain⟨t,rfl⟩:=rx;obtain⟨t',rfl⟩:=ry;exact rule i j t t' s _ _ hc ⟨.int (g i j),H,I.tok _,⟨_,rfl⟩,q⟩
theorem Hy{f:QI->QI->Sem QI}{g:Int->Int->Int}
  (rule:∀(i j:Int)(t u:Tok)(s:QU)(Q:QI->QU->Prop)(E:QI->QU->Prop),Q (.int (g i j) s.toks) {s with toks:=s.toks+1}->QW (model X.prog X.w) X.A (f (.int i t) (.int j u)) Q E s):
  kY X f (CQ λi j=>.int (g i j)):=by
 intro pins s σ H x y v u Q I rx ry h;obtain⟨i,j,rfl,rfl,q⟩:=h;obtain⟨t,rfl⟩:=rx;obtain⟨t',rfl⟩:=ry;exact rule i j t t' s _ _ ⟨.int (g i j),H,I.tok _,⟨_,rfl⟩,q⟩
theorem JB{f:QI->QI->Sem QI}{g:Int->Int->Bool}
  (rule:∀(i j:Int)(t u:Tok)(s:QU)(Q:QI->QU->Prop)(E:QI->QU->Prop),Q (.bool (g i j)) s->QW (model X.prog X.w) X.A (f (.int i t) (.int j u)) Q E s):
  kY X f (CQ λi j=>.bl (g i j)):=by
 intro pins s σ H x y v u Q I rx ry h;obtain⟨i,j,rfl,rfl,q⟩:=h;obtain⟨t,rfl⟩:=rx;obtain⟨t',rfl⟩:=ry;exact rule i j t t' s _ _ ⟨.bl (g i j),H,I,rfl,q⟩
def JF(i j:Int):Prop:=0<=j/\j<=1000000/\i.natAbs<2^64
def GV(i j:Int):Prop:=(-(2^64)<i/\i<2^64)\/(-(2^64)<j/\j<2^64)
theorem GV.ok{i j:Int}(h:GV i j):IntMulOk i j:=by
 rcases h with⟨h1,h2⟩|⟨h1,h2⟩
 ·exact .of_left (intBits_le_64 h1 h2)
 ·exact .of_right (intBits_le_64 h1 h2)
theorem yX(k:Nat):(0:Int)<=2^k:=by
 rw[two_pow_cast];exact M6 _
theorem G5:kY X (Ra .Add) (CQ λi j=>.int (i+j)):=Hy λ_ _ _ _ _ _ _ q=>add_int q
theorem pP:kY X (Ra .Sub) (CQ λi j=>.int (i-j)):=Hy λ_ _ _ _ _ _ _ q=>sub_int q
theorem j8:kY X (Ra .Mult) (rI GV λi j=>.int (i*j)):=Ij λ_ _ _ _ _ _ _ hc q=>mul_int q hc.ok
theorem bo:kY X (Ra .Mod) (rI (λ_ j=>0<j) λi j=>.int (i%j)):=Ij λi j _ _ _ _ _ hc q=>by
 have h1:(0:Int)<j:=hc;exact mod_int' ‹0› (by rw[Int.fmod_eq_emod_of_nonneg i ‹0›];exact q)
theorem gO:kY X (Ra .Pow) (rI JF λi j=>.int (i^j.toNat)):=Ij λ_ _ _ _ _ _ _ hc q=>pow_int_small hc.1 hc.2.1 hc.2.2 q
theorem yJ:kY X (Ra .RShift) (rI (λ_ j=>0<=j) λi j=>.int (i/2^j.toNat)):=Ij λi j _ _ _ _ _ hc q=>
 rshift_int hc (by rw[M7 i (yX _)];exact q)
theorem xY:kY X (Ra .BitAnd) (CQ λi j=>.int (Builtin.bitAnd i j)):=Hy λ_ _ _ _ _ _ _ q=>and_int q
theorem MC{f:QI->Sem QI}{g:Int->Int}
  (rule:∀(i:Int)(t:Tok)(s:QU)(Q:QI->QU->Prop)(E:QI->QU->Prop),Q (.int (g i) s.toks) {s with toks:=s.toks+1}->QW (model X.prog X.w) X.A (f (.int i t)) Q E s):
  Kw X f (rU λi=>.int (g i)):=by
 intro pins s σ H x v Q I rx h;obtain⟨i,rfl,q⟩:=h;obtain⟨t,rfl⟩:=rx;exact rule i t s _ _ ⟨.int (g i),H,I.tok _,⟨_,rfl⟩,q⟩
theorem Hc:Kw X (unaryOp .USub) (rU λi=>.int (-i)):=MC λ_ _ _ _ _ q=>neg_int q
end
section
variable{X:Cx}{a b c:QX}{ta tb tc:TE}{pos:Pos}
theorem Ct{pins:List (QL×Obj)}{σ:St}{H:Hp}{s:QU}{Q:VK}{k k':Bool}(I:Inv X pins σ H s)(q:Q (.bl k) H)(e:k=k'):EP X pins σ Q (.bool k') s:=by
 subst e;exact⟨.bl k,H,I,rfl,q⟩
theorem Ip:kY X (Rb .Lt) (CQ λi j=>.bl (decide (i<j))):=JB λ_ _ _ _ _ _ _ q=>lt_int q
theorem zz:kY X (Rb .Gt) (CQ λi j=>.bl (decide (j<i))):=JB λ_ _ _ _ _ _ _ q=>gt_int q
theorem Ai:kY X (Rb .Lt) (λx y H Q=>∃i j,x=.str i/\y=.str j/\Q (.bl (decide (i.cps.toList<j.cps.toList))) H):=by
 intro pins s σ H x y v u Q I rx ry h;obtain⟨i,j,rfl,rfl,q⟩:=h;obtain⟨t,rfl⟩:=rx;obtain⟨t',rfl⟩:=ry;exact lt_str (Ct I q rfl)
theorem bW(b:QX){op:CmpOp}(h:op≠.In:=by decide)(h2:op≠.NotIn:=by decide):Rc op b=false:=by
 have e1:(op==CmpOp.In)=false:=by cases op<;>first|rfl|exact absurd rfl h
 have e2:(op==CmpOp.NotIn)=false:=by cases op<;>first|rfl|exact absurd rfl h2
 cases b<;>simp[Rc,e1,e2]
theorem E8{op:CmpOp}{r:R2}(ho:kY X (Rb op) r)(ha:PE X a ta)(hb:PE X b tb)(hm:Rc op b=false):PE X (.Compare a [op] [b] pos) (IV r ta tb):=by
 intro pins s σ H Q I h;exact wpAny_Compare1 (GL ha hb I h λv u s2 x y H2 I2 rx ry q=>ho pins s2 σ H2 x y v u Q I2 rx ry q) hm
def FJ(t:TE):TT:=λσ H Q=>t σ H λx H'=>∃k,x=.bl k/\Q k H'
theorem DG{op:CmpOp}{r:R2}(ho:kY X (Rb op) r)(ha:PE X a ta)(hb:PE X b tb)(hm:Rc op b=false):PT X (.Compare a [op] [b] pos) (FJ (IV r ta tb)):=by
 intro pins s σ H Q I h;refine wpAny_isTrue_Compare1 (eQ (ha pins s σ H _ I h) λv s1 ⟨x,H1,I1,r1,q1⟩=>eQ (hb pins s1 σ H1 _ I1 q1) λu s2 ⟨y,H2,I2,r2,q2⟩=>
  eQ (ho pins s2 σ H2 x y v u _ I2 r1 r2 q2) λc s3 ⟨z,H3,I3,r3,k,e,q3⟩=>?_) hm
 subst e;cases r3;exact Q2 ⟨H3,I3,q3⟩
def Ji(K:PD)(x:V)(H:Hp)(k:Bool):Prop:=
 match x with
 |.non=>k=false
 |.bl b=>k=b
 |.int i=>k=(i !=0)
 |.str y=>y.length<=QO/\k=((y.length:Int) !=0)
 |.byt y=>y.size<=QO/\k=((y.size:Int) !=0)
 |.ref p=>(∃xs,n0 K H p xs/\k=!xs.isEmpty)\/(∃xs,pY K H p xs/\k=!xs.isEmpty)\/∃kvs,H p=some (.dK kvs)/\k=!kvs.isEmpty
 |_=>False
theorem yV{κ:Type}{kvs:List (κ×V)}{vs:List (κ×QI)}(r:KV kvs vs):(!vs.isEmpty)=!kvs.isEmpty:=by
 cases r<;>rfl
theorem rg{xs:List V}{its:List QI}(r:Vals xs its):(!its.toArray.isEmpty)=!xs.isEmpty:=by
 cases r<;>simp
theorem pM:(QO:Nat)<2^63:=by rw[Rf];decide
theorem Hm:L4 X (λx H Q=>∃k,Ji X.K x H k/\Q k H):=by
 intro pins s σ H x v Q I rx h;obtain⟨k,e,q⟩:=h;have hl:=pM;have hs:QO=16777216:=Rf;cases x with
 |non=>
  cases rx;have e':k=false:=e;subst e';exact truthy_none ⟨H,I,q⟩
 |bl b=>
  cases rx;have e':k=b:=e;subst e';exact Q2 ⟨H,I,q⟩
 |int i=>
  obtain⟨t,rfl⟩:=rx;have e':k=(i !=0):=e;subst e';exact PySem.P.truthy_int ⟨H,I,q⟩
 |str y=>
  obtain⟨t,rfl⟩:=rx;obtain⟨hy,e'⟩:y.length<=QO/\k=((y.length:Int) !=0):=e;subst e';exact PySem.P.truthy_str ‹0› ⟨H,I.tok _,q⟩
 |byt y=>
  obtain⟨t,rfl⟩:=rx;obtain⟨hy,e'⟩:y.size<=QO/\k=((y.size:Int) !=0):=e;subst e';exact PySem.W.truthy_bytes ‹0› ⟨H,I.tok _,q⟩
 |ref p=>
  cases rx;have e':(∃xs,n0 X.K H p xs/\k=!xs.isEmpty)\/(∃xs,pY X.K H p xs/\k=!xs.isEmpty)\/∃kvs,H p=some (.dK kvs)/\k=!kvs.isEmpty:=e;rcases e' with⟨xs,hx,e'⟩|⟨xs,hx,e'⟩|⟨kvs,hx,e'⟩
  ·subst e';obtain⟨its,r,pl,hz⟩:=I.list hx;have hlen:=r.length;exact wpAny_truthy_list pl.isList (by simp only[M8];omega) ⟨H,I.tok _,by rw[rg r];exact q⟩
  ·subst e';obtain⟨its,r,pl,hz⟩:=I.tuple hx;have hlen:=r.length;exact truthy_tuple pl (by simp only[M8];omega) ⟨H,I.tok _,by rw[rg r];exact q⟩
  ·subst e';obtain⟨hz,hS,vs,r,m⟩:kvs.length<=QO/\(p==sysModules)=false/\∃vs,KV kvs vs/\s.heap.DictOf (cN X.prog X.w) p vs:=I.hok p _ hx;have hlen:kvs.length=vs.length:=Paired.length r;exact wpAny_truthy_dict hS m ‹0› ⟨H,I.tok _,by rw[yV r];exact q⟩
 |_=>exact(show False from e).elim
theorem Bu(ha:PE X a ta)(he:∀whole,isTrue a X.env whole=(do let v<-whole;standAt a.pos;holding [v] (truthy v))):
  PT X a (λσ H Q=>ta σ H λx H'=>∃k,Ji X.K x H' k/\Q k H'):=by
 intro pins s σ H Q I h;exact isTrue_plain (eQ (ha pins s σ H _ I h) λv s1 ⟨x,H1,I1,r1,q1⟩=>Hm pins s1 σ H1 x v Q I1 r1 q1) (he _)
theorem yg:kY X (Ra .Add) (λx y H Q=>∃i j,x=.str i/\y=.str j/\i.length+j.length<=QO/\Q (.str (i++j)) H):=by
 intro pins s σ H x y v u Q I rx ry h;obtain⟨i,j,rfl,rfl,hz,q⟩:=h;obtain⟨t,rfl⟩:=rx;obtain⟨t',rfl⟩:=ry;exact add_str (λt' tk=>⟨.str (i++j),H,I.tok _,⟨_,rfl⟩,q⟩) hz
theorem vals1{x:V}{us:List QI}(r:Vals [x] us):∃u,us=[u]/\RelV x u:=by
 cases r with
 |cons r1 r2=>cases r2;exact⟨_,rfl,r1⟩
theorem vals2{x y:V}{us:List QI}(r:Vals [x,y] us):∃u w',us=[u,w']/\RelV x u/\RelV y w':=by
 cases r with
 |cons r1 r2=>
  cases r2 with
  |cons r3 r4=>cases r4;exact⟨_,_,rfl,r1,r3⟩
theorem Bo(hc:X.calm=true):dZ X (.builtin "max") (λxs H Q=>∃i j,xs=[.int i,.int j]/\Q (.int (if j>i then j else i)) H):=by
 intro pins s σ H xs us Q I r h;obtain⟨i,j,rfl,q⟩:=h;obtain⟨u,w',rfl,⟨t,rfl⟩,⟨t',rfl⟩⟩:=vals2 r;refine max_two_ints (I.ok.hd hc) λh' tk k=>⟨_,H,I.kept k,?_,q⟩
 by_cases hj:j>i
 ·rw[if_pos hj,if_pos hj];exact⟨_,rfl⟩
 ·rw[if_neg hj,if_neg hj];exact⟨_,rfl⟩
theorem Ax(hc:X.calm=true):dZ X (.builtin "min") (λxs H Q=>∃i j,xs=[.int i,.int j]/\Q (.int (if j<i then j else i)) H):=by
 intro pins s σ H xs us Q I r h;obtain⟨i,j,rfl,q⟩:=h;obtain⟨u,w',rfl,⟨t,rfl⟩,⟨t',rfl⟩⟩:=vals2 r;refine min_two_ints (I.ok.hd hc) λh' tk k=>⟨_,H,I.kept k,?_,q⟩
 by_cases hj:j<i
 ·rw[if_pos hj,if_pos hj];exact⟨_,rfl⟩
 ·rw[if_neg hj,if_neg hj];exact⟨_,rfl⟩
theorem ui:dZ X (.type "int") (λxs H Q=>(∃i,xs=[.int i]/\Q (.int i) H)\/∃k,xs=[.bl k]/\Q (.int (if k then 1 else 0)) H):=by
 intro pins s σ H xs us Q I r h;rcases h with⟨i,rfl,q⟩|⟨k,rfl,q⟩
 ·obtain⟨u,rfl,t,rfl⟩:=vals1 r;exact call_int_int ⟨.int i,H,I,⟨_,rfl⟩,q⟩
 ·obtain⟨u,rfl,r1⟩:=vals1 r;cases r1;exact call_int_bool ⟨.int (if k then 1 else 0),H,I.tok _,⟨_,rfl⟩,q⟩
end
structure GQ(h:QN)(x dx C:QL)(mA:Str->Option QI):Prop where
 obj:h.get? x=some (PB C dx)
 ns:h.Ns1 dx mA
 ne:dx≠x
theorem AU{h:QN}{dx:QL}{mA:Str->Option QI}(n:h.Ns1 dx mA):∃od,h.get? dx=some od/\∀name,PF name od=some (mA name):=by
 obtain⟨o,es,ep,ho,hd,hk,_,hm⟩:=n;refine⟨o,ho,λname=>?_⟩;have e:=hm name;unfold nsFind findBy at e;rw[<-Array.find?_toList]at e;unfold PF;rw[hd];dsimp only;split
 ·rename_i y q;rw[q]at e;exact congrArg some e
 ·rename_i q;rw[q]at e;have a:es.toList.any (·.refKey)=false:=by
   rw[List.any_eq_false];intro y hy;obtain⟨z,t,hkey⟩:=hk y (Array.mem_toList_iff.mp hy);simp[DictEntry.refKey,hkey]
  have a':¬es.toList.any (·.refKey)=true:=by rw[a];exact M9
  rw[if_neg a'];exact congrArg some e
theorem GQ.look{h:QN}{x dx C:QL}{mA:Str->Option QI}(I:GQ h x dx C mA):∃od,PySem.W.InstAt h x (PB C dx) C (some od)/\∀name,PF name od=some (mA name):=
 let ⟨od,ho,hl⟩:=AU I.ns
 ⟨od,⟨I.obj,rfl,rfl,ho⟩,hl⟩
section
variable{prog:QK}{w:QJ}{A:QT}{E:QI->QU->Prop}{s:QU}{K:PD}{x dx C f:QL}{mA:Str->Option QI}{name:Str}{v:QI}
theorem B8{pl:Sem Bool}{Q:QI×List QI->QU->Prop}(X:K.In s.heap)(I:GQ s.heap x dx C mA)(hg:PH K C name=true)
  (hf:PJ K (.ref C) name=some (some (.ref f))) (ht:PK K (.ref f)=true) (hv:mA name=none) (h:Q (.ref f,[.ref x]) s):
  QW (model prog w) A (getMethod (.ref x) name pl) Q E s:=by
 obtain⟨od,J,hl⟩:=I.look;exact PySem.W.method_fn X J (PL hg).1 (PL hg).2 hf (beq_iff_eq.mp ht) (by show(PF name od).map (·.isSome)=some false;rw[hl,hv];rfl) h
theorem Ba{R:Result->QU->Prop}(X:K.In s.heap)(hm:PN K C=true)
  (hi:PJ K (.ref C) "__init__"=some (some (.builtin "object.__init__")))
  (hb:∀self,PP (model prog w) s.heap (bindSpecial (.builtin "object.__init__") self) (.builtin "object.__init__",[self]))
  (h:Rg (model prog w) (A.under (.builtin "type.__call__" ⟨[.ref C],[]⟩)) (.call (.builtin "object.__init__") ⟨[.ref (s.heap.objs.size+1)],[]⟩) (PySem.W.InitBack (s.heap.objs.size+1) R)
   {s with heap:=(s.heap.push PQ).push (PB C s.heap.objs.size)}):
  Rg (model prog w) A (.call (.ref C) ⟨[],[]⟩) R s:=by
 obtain⟨hh,g,d,t,os⟩:=s;exact PySem.W.make_core (PR X hm) (PySem.W.looks_findIn X hi) hb (.inr ⟨rfl,rfl⟩) h
end
theorem wz.some_of{v:V}{o:Option QI}(r:wz (some v) o):∃u,o=some u/\RelV v u:=by
 cases o with
 |none=>exact(show False from r).elim
 |some u=>exact⟨u,rfl,r⟩
theorem wz.none_of{o:Option QI}(r:wz none o):o=none:=by
 cases o with
 |none=>rfl
 |some u=>exact(show False from r).elim
section
variable{P:QK}{w:QJ}{H H':Hp}{h h':QN}{a C dx:QL}{fs fs':List (Str×V)}
theorem Eh(hok:oM P w H h)(e:H a=some (.ins C dx fs)):∃mA,GQ h a dx C mA/\(∀f,wz (fs.lookup f) (mA f))/\PySem.Within mA (fs.map (·.1))/\fs.length<=1000/\H dx=some (.own a):=by
 obtain⟨d,z,ne,ob,mA,n,r,q⟩:=(show cM P w H h a (.ins C dx fs)from hok a _ e)
 exact⟨mA,⟨ob,n,ne⟩,r,q,z,d⟩
end
structure HH(K:PD)(C:QL):Prop where
 pg:PH K C Str.empty=true
 hd:PV K C=true
 po:PX K C=true
 sa:PJ K (.ref C) "__setattr__"=some (some (.builtin "object.__setattr__"))
theorem HH.get{K:PD}{C:QL}(c:HH K C)(f:Str):PH K C f=true:=c.pg
structure Meth(K:PD)(C:QL)(m:Str)(f:QL):Prop where
 at_:PJ K (.ref C) m=some (some (.ref f))
 fn:PK K (.ref f)=true
 kp:PY K (.ref f)=true
section
variable{X:Cx}{pins:List (QL×Obj)}{σ:St}{H:Hp}{s:QU}{a C dx:QL}{fs:List (Str×V)}{f:Str}{v:V}{A:QT}{E:QI->QU->Prop}
theorem yP{m:Str}{g:QL}{pl:Sem Bool}{Q:QI×List QI->QU->Prop}(I:Inv X pins σ H s)(e:H a=some (.ins C dx fs))(c:HH X.K C)(k:Meth X.K C m g)(l:fs.lookup m=none)
  (h:Q (.ref g,[.ref a]) s):QW (model X.prog X.w) A (getMethod (.ref a) m pl) Q E s:=by
 obtain⟨mA,O,r,_,_,_⟩:=Eh I.hok e;have hn:mA m=none:=wz.none_of (by rw[<-l];exact r m);exact B8 I.kIn O (c.get m) k.at_ k.fn hn h
theorem Inv.made(I:Inv X pins σ H s):Inv X pins σ (upd (upd H s.heap.objs.size (.own (s.heap.objs.size+1))) (s.heap.objs.size+1) (.ins C s.heap.objs.size []))
  {s with heap:=(s.heap.push PQ).push (PB C s.heap.objs.size)}:=by
 have e1:(s.heap.push PQ).get? s.heap.objs.size=some PQ:=Ql s.heap rfl;have e2:((s.heap.push PQ).push (PB C s.heap.objs.size)).get? (s.heap.objs.size+1)=some (PB C s.heap.objs.size):=by
  have:=Ql (s.heap.push PQ) (o:=PB C s.heap.objs.size) rfl
  rwa [Qm]at this
 have e3:(s.heap.push PQ).Ns s.heap.objs.size (λ_=>none):=⟨PQ,#[],_,e1,rfl,(λe he=>absurd he (by simp)),λ_=>rfl⟩
 have I1:=I.laid (a:=s.heap.objs.size) (o:=.own (s.heap.objs.size+1)) (h':=s.heap.push PQ) (t':=s.toks) (λb u q=>Qk _ q) (M3 _) ⟨_,e1⟩;refine I1.laid (a:=s.heap.objs.size+1) (o:=.ins C s.heap.objs.size []) (t':=s.toks) (λb u q=>Qk _ q) (Nb (Qm _ _)) ?_;have ne:s.heap.objs.size≠s.heap.objs.size+1:=MR (Nat.lt_succ_self _);refine⟨by rw[aQ ne,bb],Nc _,ne,e2,λ_=>none,(Heap.Ns1.of_empty e3).at λo q=>Qk _ q,λ_=>True.intro,λy hy=>absurd rfl hy⟩
end
section
variable{X:Cx}{o e value:QX}{f:Str}{pos pos' tpos:Pos}{ta tv:TE}
theorem ww{pl:Sem Bool}{m:Str}{apos:Pos}{args:List QX}{pins:List (QL×Obj)}{s:QU}{σ:St}{H:Hp}{Q:QI->QU->Prop}{te:TE}(he:PE X e te)(I:Inv X pins σ H s)
  (h:te σ H fun x H1=>∃ a C dx fs g,x=.ref a/\H1 a=some (.ins C dx fs)/\HH X.K C/\Meth X.K C m g/\fs.lookup m=none /\
   ∀s1,Inv X pins σ H1 s1->QW (model X.prog X.w) X.A (Rh pos (.ref g) [.ref a] (backTo pos (QY args X.env)) (backToKw pos (Ri [] X.env))) Q X.xe s1)
  (ht:eval (.Call (.Attribute e m apos) args [] pos) X.env=(do
   let ov<-eval e X.env
   standAt apos.atName
   let (f,first)<-holding [ov] (getMethod ov m pl)
   Rh pos f first (backTo pos (QY args X.env)) (backToKw pos (Ri [] X.env)))):
  QW (model X.prog X.w) X.A (eval (.Call (.Attribute e m apos) args [] pos) X.env) Q X.xe s:=by
 refine PySem.W.methodCall_KW (pl:=pl) (eQ (he pins s σ H _ I h) λu s1 ⟨x,H1,I1,rx,a,C,dx,fs,g,ex,ea,c,k,l,q⟩=>?_) ht;subst ex;obtain rfl:u=Value.ref a:=rx;exact yP I1 ea c k l (q s1 I1)
end
structure iF(k:Nat)(A:QT):Prop where
 hd:A.handled=none
 dp:A.depth+3*k+5<Rj
 un:A.units+16*k+200<Rl
theorem iF.mono{j k:Nat}{A:QT}(r:iF k A)(h:j<=k):iF j A:=⟨r.hd,by have:=r.dp;omega,by have:=r.un;omega⟩
theorem iF.deeper{k:Nat}{A:QT}(r:iF (k+1) A)(env:Env):iF k (A.deeper env):=
 ⟨r.hd,by have:=r.dp;show A.depth+1+3*k+5<_;omega,by have:=r.un;show A.units+3+16*k+200<_;omega⟩
theorem iF.depth{k:Nat}{A:QT}(r:iF k A):A.depth<Rj:=by have:=r.dp;omega
theorem iF.units{k:Nat}{A:QT}(r:iF k A):A.units+64<Rl:=by have:=r.un;omega
def La:TA:=λ_ H Q=>Q [] H
def JC(ta:TE)(tr:TA):TA:=λσ H Q=>ta σ H λx H1=>tr σ H1 λxs H2=>Q (x::xs) H2
section
variable{X:Cx}{e:QX}{es:List QX}{te:TE}{t:TA}{pos:Pos}
theorem pI:PA X [] La:=λ_ _ _ _ H Q I h=>Calls.spliced_nil ⟨[],H,I,.nil,h⟩
theorem mC(ha:PE X e te)(hr:PA X es t)(hs:QY (e::es) X.env=(false,eval e X.env)::QY es X.env:=by rfl):PA X (e::es) (JC te t):=by
 intro pos pins s σ H Q I h;rw[hs];show QW _ _ (spliced ((false,eval e X.env)::backTo pos (QY es X.env))) _ _ s;refine Calls.spliced_cons (eQ (ha pins s σ H _ I h) λu s1 ⟨x,H1,I1,r1,q1⟩=>?_);exact eQ (hr pos pins s1 σ H1 _ I1 q1) λus s2 ⟨xs,H2,I2,r2,q2⟩=>⟨x::xs,H2,I2,.cons r1 r2,q2⟩
def Kl(t:TA):TE:=λσ H Q=>t σ H λxs H1=>xs.length<=QO/\∀p,H1 p=none->Q (.ref p) (upd H1 p (.tup xs))
def KH(t:TA):TE:=λσ H Q=>t σ H λxs H1=>xs.length<=QO/\∀p,H1 p=none->Q (.ref p) (upd H1 p (.lst xs))
theorem Hh{x1}(h:PA X es t):PE X (.Tuple es x1 pos) (Kl t):=by
 intro pins s σ H Q I hq;refine wpAny_Tuple_spliced (eQ (h pos pins s σ H _ I hq) λus s1 ⟨xs,H1,I1,r,z,q⟩=>⟨by rw[<-r.length];exact z,?_⟩);have hf:H1 s1.heap.objs.size=none:=I1.hok.fresh (M3 _);refine⟨.ref s1.heap.objs.size,upd H1 s1.heap.objs.size (.tup xs),I1.laid (t':=s1.toks) (λb u e=>Qk _ e) (M3 _) ?_,rfl,q _ hf⟩;exact⟨z,us,r,⟨_,Ql _ rfl,rfl,_,rfl⟩⟩
theorem sG(h:PA X es t):PE X (.List es pos) (KH t):=by
 intro pins s σ H Q I hq;refine wpAny_List_spliced (eQ (h pos pins s σ H _ I hq) λus s1 ⟨xs,H1,I1,r,z,q⟩=>⟨by rw[<-r.length];exact z,?_⟩);have hf:H1 s1.heap.objs.size=none:=I1.hok.fresh (M3 _);refine⟨.ref s1.heap.objs.size,upd H1 s1.heap.objs.size (.lst xs),I1.laid (t':=s1.toks) (λb u e=>Qk _ e) (M3 _) ?_,rfl,q _ hf⟩;exact⟨z,us,0,r,Ql _ rfl⟩
end
abbrev Sp:=List V->Hp->VK->XK->Prop
abbrev Bq:=List Env->Hp->QU->XK->QI->QU->Prop
structure EY(P:QK)(w:QJ)(K:PD)(mg:Str->Option QI)(base:QN)(A:QT)(outer:List Env)(s:QU)(H:Hp):Prop where
 frames:A.frames=some outer
 mod:Mod K mg base
 bs:∀b o,base.get? b=some o->s.heap.get? b=some o/\H b=none
 bsz:base.objs.size<=s.heap.objs.size
 funs:s.heap.FunFrames base outer
 frf:∀b∈frs outer,H b=none
 hok:oM P w H s.heap
 bare:AllBare s.gens
def CE(outer:List Env)(P:QK)(w:QJ)(H:Hp)(s:QU)(Q:VK)(u:QI)(s':QU):Prop:=
 ∃v H',s'.os=s.os/\AllBare s'.gens/\Un (frs outer) [] H H' s.heap s'.heap/\oM P w H' s'.heap/\RelV v u/\Q v H'
def CR(CX:Bq)(outer:List Env)(P:QK)(w:QJ)(H:Hp)(s:QU)(Q:VK)(E:XK)(r:Result)(s':QU):Prop:=
 match r with
 |.ok (.ret u)=>CE outer P w H s Q u s'
 |.ok _=>False
 |.error e=>CX outer H s E e s'
structure nA(P:QK)(w:QJ)(K:PD)(mg:Str->Option QI)(base:QN)(CX:Bq)(k:Nat)(f:QL)(fd:Rm)(ps:List Str)(sp:Sp):Prop where
 len:∀vs H Q E,sp vs H Q E->vs.length=ps.length
 run:∀(A:QT)(outer:List Env)(s:QU)(H:Hp)(args:Args)(us:List QI)(vs:List V)(Q:VK)(E:XK),iF k A->EY P w K mg base A outer s H->Rn s fd args (ps.zip us)->Vals vs us->sp vs H Q E->
  Rg (model P w) A (.call (.ref f) args) (CR CX outer P w H s Q E) s
theorem nA.mono{P:QK}{w:QJ}{K:PD}{mg:Str->Option QI}{base:QN}{CX:Bq}{j k:Nat}{f:QL}{fd:Rm}{ps:List Str}{sp:Sp}(F:nA P w K mg base CX j f fd ps sp)(h:j<=k):
  nA P w K mg base CX k f fd ps sp:=⟨F.len,λA outer s H args us vs Q E hr=>F.run A outer s H args us vs Q E (hr.mono h)⟩
section
variable{X:Cx}{pins:List (QL×Obj)}{σ:St}{H:Hp}{s s':QU}
theorem Inv.env0(I:Inv X pins σ H s):EY X.prog X.w X.K X.mg X.base X.A X.stack s H:=
 ⟨I.ok.frames,I.ok.mod,I.bs,MS I.ok.bsz I.sz,I.stack,I.stkFree,I.hok,I.bare⟩
theorem Inv.after{Q:VK}{u:QI}(I:Inv X pins σ H s)(h:CE X.stack X.prog X.w H s Q u s'):EP X pins σ Q u s':=by
 obtain⟨v,H',os,bare,un,hok,r,q⟩:=h;obtain⟨hh,g,d,t,os'⟩:=s';obtain rfl:os'=s.os:=os;exact⟨v,H',I.call (h':=hh) (g':=g) (d':=d) (t':=t) (ch:=[]) un hok bare (λb z=>absurd z (by simp)),r,q⟩
end
def Binds(K:PD)(fd:Rm)(ps:List Str)(ds:List QI):Prop:=
 ∀(s:QU)(us:List QI),K.In s.heap->(us++ds).length=ps.length->Rn s fd ⟨us,[]⟩ (ps.zip (us++ds))
theorem Binds.all{K:PD}{fd:Rm}{ps:List Str}(h:∀us:List QI,us.length=ps.length->bindArgs fd ⟨us,[]⟩=pure (ps.zip us)):Binds K fd ps []:=λs us _ hl=>by
 rw[Nf]at hl ⊢;exact .of_eq (h us hl)
section
variable{X:Cx}{CX:Bq}{k:Nat}{f C:QL}{fd:Rm}{ps:List Str}{sp:Sp}{dvs:List V}{ds:List QI}{E:XK}{x m:Str}{p pos apos:Pos}{e o:QX}{es:List QX}{ta:TE}{t:TA}
end
structure bw(N P:List Str)(sc:QV):Prop where
 kind:sc.kind=.function
 co:sc.isCoroutine=false
 gen:sc.isGenerator=false
 nd:N.Nodup
 pre:N.take P.length=P
 par:∀x∈P,sc.names.lookup x=some .local\/sc.names.lookup x=some .cell
 nofree:∀y∈sc.names,y.2≠.free
theorem uH{kindOf:Str->Option Ro}{x:Str}:∀{binds:List (Str×QI)}{m:Str->Option QI},(∀v,(x,v)∉binds)->bindL kindOf binds m x=m x
 |[],_,_=>rfl
 |(n,v)::r,m,h=>by
  unfold bindL;rw[uH λw hw=>h w (MX _ hw)];split
  ·have:x≠n:=(by rintro rfl;exact h v MV);simp[this]
  ·rfl
theorem ur{kindOf:Str->Option Ro}{x:Str}:∀{binds:List (Str×QI)}{m:Str->Option QI},(∀v,(x,v)∉binds)->bindC kindOf binds m x=m x
 |[],_,_=>rfl
 |(n,v)::r,m,h=>by
  unfold bindC;rw[ur λw hw=>h w (MX _ hw)];split
  ·rfl
  ·have:x≠n:=(by rintro rfl;exact h v MV);simp[this]
theorem tL{kindOf:Str->Option Ro}{x:Str}{v:QI}:∀{P:List Str}{vs:List QI}{i:Nat}{m:Str->Option QI},P.Nodup->P[i]?=some x->vs[i]?=some v->kindOf x=some .local->
  bindL kindOf (P.zip vs) m x=some v
 |[],_,_,_,_,h,_,_=>by simp at h
 |_::_,[],_,_,_,_,h,_=>by simp at h
 |p::P,w::vs,0,m,nd,h1,h2,hk=>by
  simp at h1 h2;subst h1;subst h2;show bindL kindOf ((p,w)::P.zip vs) m p=_;unfold bindL;rw[uH λv hv=>(List.nodup_cons.mp nd).1 (Ng hv).1,if_pos hk];simp
 |p::P,w::vs,i+1,m,nd,h1,h2,hk=>by
  show bindL kindOf ((p,w)::P.zip vs) m x=_;unfold bindL;exact tL (i:=i) (List.nodup_cons.mp nd).2 (by simpa using h1) (by simpa using h2) hk
theorem tQ{kindOf:Str->Option Ro}{x:Str}{v:QI}:∀{P:List Str}{vs:List QI}{i:Nat}{m:Str->Option QI},P.Nodup->P[i]?=some x->vs[i]?=some v->kindOf x≠some .local->
  bindC kindOf (P.zip vs) m x=some v
 |[],_,_,_,_,h,_,_=>by simp at h
 |_::_,[],_,_,_,_,h,_=>by simp at h
 |p::P,w::vs,0,m,nd,h1,h2,hk=>by
  simp at h1 h2;subst h1;subst h2;show bindC kindOf ((p,w)::P.zip vs) m p=_;unfold bindC;rw[ur λv hv=>(List.nodup_cons.mp nd).1 (Ng hv).1,if_neg hk];simp
 |p::P,w::vs,i+1,m,nd,h1,h2,hk=>by
  show bindC kindOf ((p,w)::P.zip vs) m x=_;unfold bindC;exact tQ (i:=i) (List.nodup_cons.mp nd).2 (by simpa using h1) (by simpa using h2) hk
def start(N:List Str)(vs:List V):St:=vs.map some++List.replicate (N.length-vs.length) none
def kG(CX:Bq)(P:QK)(w:QJ)(K:PD)(mg:Str->Option QI)(base:QN)(N:List Str)(qual:Str)(scope:QV)(f:QL)(cd:QI)(A:QT)(outer:List Env)(s:QU)(H:Hp)(E:XK):Cx where
 prog:=P
 w:=w
 K:=K
 mg:=mg
 base:=base
 A:=A.deeper (envOfC qual scope s.heap.objs.size f cd)
 N:=N
 s₀:=s
 H₀:=H
 env:=envOfC qual scope s.heap.objs.size f cd
 outer:=outer
 stack:=envOfC qual scope s.heap.objs.size f cd::outer
 ex:=[]
 calm:=true
 fn:=λ_=>true
 pn:=[]
 xe:=λe s'=>QW (model P w) (A.deeper (envOfC qual scope s.heap.objs.size f cd)) (leaving (envOfC qual scope s.heap.objs.size f cd) e) (λ_ s''=>CX outer H s E e s'') (λe' s''=>CX outer H s E e' s'') s'
theorem xk{sc:QV}{n:Nat}{x:Str}(h:sc.names.lookup x=some .cell):∃c,(cellsFrom n sc.names []).lookup x=some c:=by
 have q:=PZ sc.names n [] (.inl h);exact Option.isSome_iff_exists.mp q
theorem A9{CX:Bq}{P:QK}{w:QJ}{K:PD}{mg:Str->Option QI}{base:QN}{N ps:List Str}{qual:Str}{scope:QV}{f:QL}{cd:QI}{A:QT}{outer:List Env}{s s1:QU}{H:Hp}{E:XK}{us:List QI}{vs:List V}
  (S:bw N ps scope) (hd:A.handled=none) (e0:EY P w K mg base A outer s H) (hl:vs.length=ps.length) (r:Vals vs us)
  (x:InCallC s s.heap.objs.size (bindL (envOfC qual scope s.heap.objs.size f cd).kindOf (ps.zip us) λ_=>none) (cellsFrom (s.heap.objs.size+1) scope.names []) (bindC (envOfC qual scope s.heap.objs.size f cd).kindOf (ps.zip us) λ_=>none) s1):
  Inv (kG CX P w K mg base N qual scope f cd A outer s H E) [] (start N vs) H s1:=by
 have hpl:ps.length<=N.length:=by have:=congrArg List.length S.pre;rw[Nh]at this;omega
 obtain⟨h1,tk,rfl,hk⟩:=x.done;have noA:∀b:QL,b∉(kG CX P w K mg base N qual scope f cd A outer s H E).ex:=λb z=>absurd (show b∈([]:List QL)from z) (by simp);refine⟨⟨e0.mod,S.kind,rfl,rfl,M3 _,λy z c h1 h2=>?_,λy hy=>?_,λy c _ h=>?_,λ_=>hd,Around.frames_deeper e0.frames,.inr ⟨rfl,rfl⟩,λb z=>absurd z (noA b),e0.bs,e0.bsz,λb _ _=>noA b,λb z=>absurd z (noA b),e0.funs,e0.frf⟩,
  rfl,e0.bare,Un.kept hk,⟨_,x.toInCall.ns,λi y v h1 h2 h3=>?_⟩,λy c h=>⟨_,x.cell y c h⟩,e0.hok.fresh (M3 _),λy c h=>?_,λp hp=>absurd (show p∈([]:List (QL×Obj))from hp) (by simp),e0.hok.kept hk,?_⟩
 ·exact name_of_addr x.apart (PySem.mem_of_lookup h1) (PySem.mem_of_lookup h2)
 ·have hy:scope.names.lookup y=some .cell\/scope.names.lookup y=some .free:=hy;rcases hy with hy|hy
  ·exact xk hy
  ·exact absurd rfl (S.nofree _ (PySem.mem_of_lookup hy))
 ·exact MT (x.above y c (PySem.mem_of_lookup h))
 ·have hi:i<vs.length:=by
   unfold start at h2;by_cases hi:i<vs.length
   ·exact hi
   ·rw[Ni (by simpa using hi)]at h2;rw[Nj]at h2;split at h2<;>cases h2
  have ha:vs[i]?=some v:=by
   unfold start at h2;rw[Nk (by simpa using hi),Nm]at h2;cases e:vs[i]? with
   |none=>rw[e]at h2;cases h2
   |some a=>rw[e]at h2;cases h2;rfl
  obtain⟨u,hu,rv⟩:=r.get ha;have hp:ps[i]?=some y:=by
   rw[<-S.pre,List.getElem?_take_of_lt ‹0›];exact h1
  have ndP:ps.Nodup:=by rw[<-S.pre];exact S.nd.sublist (List.take_sublist _ _)
  refine⟨u,rv,?_⟩;rcases S.par y (Nn hp)with k|k
  ·exact .inl ⟨k,tL ndP hp hu k⟩
  ·obtain⟨c,e⟩:=xk (n:=s.heap.objs.size+1) k;refine .inr ⟨.inl k,c,e,?_⟩;have q:=x.cell y c e;rw[tQ ndP hp hu (by show scope.names.lookup y≠_;rw[k];decide)]at q;exact q
 ·exact e0.hok.fresh (MT (x.above y c (PySem.mem_of_lookup h)))
 ·unfold start;show _=N.length;rw[Np,Nq,List.length_replicate];omega
theorem FU{CX:Bq}{P:QK}{w:QJ}{K:PD}{mg:Str->Option QI}{base:QN}{k:Nat}{f:QL}{name qual:Str}{params:Rp}{body:List QZ}{scope:QV}{dV kV doc pm cdv ct oc:QI}{an od:Option QL}
  {osl:Array (Option QI)} {N ps:List Str} {sp:Sp} (lk:K.lookup f=some ⟨oc,od,.func (P0 name qual params body scope dV kV doc pm an cdv ct),osl⟩) (hcd:P4 K cdv qual=true) (S:bw N ps scope)
  (len:∀vs H Q E,sp vs H Q E->vs.length=ps.length)
  (hbody:∀ (A:QT) (outer:List Env) (s:QU) (H:Hp) (vs:List V) (Q:VK) (E:XK),iF k (A.deeper (envOfC qual scope s.heap.objs.size f cdv))->sp vs H Q E ->
   ∃t,AY (kG CX P w K mg base N qual scope f cdv A outer s H E) body t/\t {nx:=λ_ H'=>Q .non H',rt:=Q} (start N vs) H):
  nA P w K mg base CX (k+1) f (P0 name qual params body scope dV kV doc pm an cdv ct) ps sp:=by
 refine⟨len,λA outer s H args us vs Q E hr e0 hb r hsp=>?_⟩;have hl:=len _ _ _ _ hsp;have KX:K.In s.heap:=e0.mod.kin.keeps λb o e=>(e0.bs b o e).1;have lim:s.heap.NoLimit:=e0.mod.nolimit.keeps λb o e=>(e0.bs b o e).1;have hkind:∀y∈ps.zip us,scope.names.lookup y.1=some .local\/(scope.names.lookup y.1=some .cell/\((cellsFrom (s.heap.objs.size+1) scope.names []).lookup y.1).isSome=true):=λ⟨n,v⟩ hy=>by
  rcases S.par n (Ng hy).1 with q|q
  ·exact .inl q
  ·exact .inr ⟨q,PZ _ _ _ (.inl q)⟩
 refine codeAny_call_function hr.depth (KX _ _ lk) rfl S.co S.gen rfl (PySem.W.codeRec_of KX hcd) (hb _ _ _ _ ?_);refine wpAny_newFunctionEnv_cells S.kind hkind λenv he s1 x=>?_;subst he;refine⟨lim.keeps x.toInCall.keep,codeAny_func ?_⟩;obtain⟨t,ht,hq⟩:=hbody A outer s H vs Q E (hr.deeper _) hsp;have I:Inv (kG CX P w K mg base N qual scope f cdv A outer s H E) [] (start N vs) H s1:=A9 S hr.hd e0 hl r x;refine Q0 (ht [] s1 (start N vs) H _ I hq) (λfl s' hs=>?_) λe s' hs=>hs;have fin:∀{σ':St}{H':Hp}{v:V}{u:QI},Inv (kG CX P w K mg base N qual scope f cdv A outer s H E) [] σ' H' s'->RelV v u->Q v H'->CE outer P w H s Q u s':=
  λ{σ' H' v u} J rv q=>⟨v,H',J.os,J.bare,J.base,J.hok,rv,q⟩
 cases fl with
 |ret u=>
  obtain⟨v,σ',H',J,rv,q⟩:=hs;exact fin J rv q
 |next=>
  obtain⟨σ',H',J,q⟩:=hs;exact fin (v:=V.non) (u:=Value.none) J rfl q
 |brk=>
  obtain⟨_,_,_,q⟩:=hs;exact False.elim q
 |cont=>
  obtain⟨_,_,_,q⟩:=hs;exact False.elim q
section
variable{X:Cx}{x:Str}{p pos:Pos}{e:QX}{es:List QX}{t:TA}{id T:String}{r:List V->Hp->VK->Prop}
def Kq(r:List V->Hp->VK->Prop)(t:TA):TE:=λσ H Q=>t σ H λvs H1=>r vs H1 Q
theorem wg(hc:dZ X (.builtin id) r)(hg:Gl X x)(hm:X.mg x=none)(hv:QS x=some (.builtin id))(ha:PA X (e::es) t)(hn:x≠"__name__":=by decide)(hdb:(x==("__debug__":Str))=false:=by decide)
  (he:QY (e::es) X.env=(false,eval e X.env)::QY es X.env:=by rfl) (hpl:(backTo pos (QY es X.env)).any (·.1)=false:=by rfl):PE X (.Call (.Name x p) (e::es) [] pos) (Kq r t):=by
 intro pins s σ H Q I h;refine Rq (lB I hg hm hv ?_ hn hdb);exact PyProof.Rows.callWith_builtin1 (eQ (ha pos pins s σ H _ I h) λus s1 ⟨vs,H1,I1,r1,q1⟩=>hc pins s1 σ H1 vs us Q I1 r1 q1) he hpl
theorem Ao(hc:dZ X (.type T) r)(hg:Gl X x)(hm:X.mg x=none)(hv:QS x=some (.type T))(ha:PA X (e::es) t)(hn:x≠"__name__":=by decide)(hdb:(x==("__debug__":Str))=false:=by decide)
  (he:QY (e::es) X.env=(false,eval e X.env)::QY es X.env:=by rfl) (hpl:(backTo pos (QY es X.env)).any (·.1)=false:=by rfl):PE X (.Call (.Name x p) (e::es) [] pos) (Kq r t):=by
 intro pins s σ H Q I h;refine Rq (lB I hg hm hv ?_ hn hdb);exact Qr (eQ (ha pos pins s σ H _ I h) λus s1 ⟨vs,H1,I1,r1,q1⟩=>hc pins s1 σ H1 vs us Q I1 r1 q1) he hpl
end
end L2
namespace HT
open PySem PyProof.Rows
theorem Ja(A:QT)(s:QU)(a:Int)(t:Tok)(c:Int)(u:Tok)(prog:QK)(w:QJ)(E:QI->QU->Prop)(Q:QI->QU->Prop)(h:Q (.bool (decide (a<c))) s):
  QW (model prog w) A (richCompare .Lt (.int a t) (.int c u)) Q E s:=
 (PyProof.Rows.lt_int h:QW (model prog w) A (Rb .Lt (.int a t) (.int c u)) Q E s)
section
open PySem.SeqAt
open PySem.AutoSeq1 (wpAny_loadPart')
open PySem.MeetsSeq PySem.MeetsSeq2 PySem.MeetsSeq3
end
section
variable{prog:QK}{w:QJ}{A:QT}{E:QI->QU->Prop}{s:QU}
theorem J8{t b:QL}{vs ws:List QI}{Q:QI->QU->Prop}(ht:QP s.heap t vs.toArray)(hb:QP s.heap b ws.toArray)(hv:vs≠[])
  (h1:ws=[]->Q (.ref t) s) (h2:ws≠[]->Q (.ref s.heap.objs.size) {s with heap:=s.heap.push {cls:=.type "tuple",data:=.seq (vs++ws).toArray}})
  (hsz:vs.length+ws.length<=QO):QW (model prog w) A (Ra .Add (.ref t) (.ref b)) Q E s:=by
 obtain⟨⟨cls,dd,data,sl⟩,ho,hc,n,hd⟩:=id ht;obtain⟨⟨cls2,dd2,data2,sl2⟩,ho2,hc2,n2,hd2⟩:=id hb;simp only at hc hd hc2 hd2;subst hc hd hc2 hd2;have e:vs.toArray++ws.toArray=(vs++ws).toArray:=by simp
 by_cases hw:ws=[]
 ·exact Rr ⟨_,ho,rfl⟩ ⟨_,ho2,rfl⟩ Rt Ru QD QE (QF _ _)
   (tuple_addW1 t b vs.toArray ws.toArray n n2 dd dd2 sl sl2 (by simpa using hv) (by simp[hw])) ⟨ho,ho2,h1 hw⟩
 ·refine Rr ⟨_,ho,rfl⟩ ⟨_,ho2,rfl⟩ Rt Ru QD QE (QF _ _)
   (tuple_addW2 t b vs.toArray ws.toArray n n2 dd dd2 sl sl2 (by simpa using hv) (by simpa using hw) (by rw[M8,M8];exact hsz)) ⟨ho,ho2,?_⟩
  rw[e];exact h2 hw
def sIx(n d:Nat):Option Int->Nat
 |none=>d
 |some v=>if v<0 then(v+(n:Int)).toNat else min v.toNat n
theorem IY(n d:Nat):sIx n d none=d:=rfl
theorem J1(n d k:Nat):sIx n d (some (k:Int))=min k n:=by
 show(if(k:Int)<0 then((k:Int)+(n:Int)).toNat else min (k:Int).toNat n)=min k n;rw[if_neg ‹0›,Nr]
theorem GA(n d:Nat)(hd:d<=n)(o:Option Int):sIx n d o<=n:=by
 cases o with
 |none=>exact hd
 |some v=>
  show(if v<0 then(v+(n:Int)).toNat else min v.toNat n)<=n;by_cases hv:v<0
  ·rw[if_pos hv];omega
  ·rw[if_neg hv];exact Nat.min_le_right _ _
theorem zR(v:Int)(n d:Nat):(if v<0 then max (v+(n:Int)) 0 else min v (n:Int))=((sIx n d (some v):Nat):Int):=by
 show(if v<0 then max (v+(n:Int)) 0 else min v (n:Int))=(((if v<0 then(v+(n:Int)).toNat else min v.toNat n):Nat):Int)
 by_cases hv:v<0
 ·simp only[if_pos hv];omega
 ·simp only[if_neg hv];omega
theorem yH(lo hi:Option Int)(n:Nat):Builtin.Slice.sliceAdjust lo hi 1 (n:Int)=(((sIx n 0 lo:Nat):Int),((sIx n n hi:Nat):Int)):=by
 have h1:¬((1:Int)<0):=by omega
 unfold Builtin.Slice.sliceAdjust;simp only[h1,if_false];refine Prod.ext ?_ ?_
 ·cases lo with
  |none=>rfl
  |some v=>exact zR v n 0
 ·cases hi with
  |none=>rfl
  |some v=>exact zR v n n
theorem yK(i j:Nat):Builtin.Slice.slicePlaces (i:Int) (j:Int) 1=j-i:=by
 unfold Builtin.Slice.slicePlaces;have h1:(1:Int)>0:=by omega
 simp only[h1,if_true,Int.ediv_one];split<;>omega
theorem sk{v:QI}{o:Option Int}{Q:Option Int->QU->Prop}(p:Rv v o)(h:Q o s):QW (model prog w) A (Builtin.Slice.slicePartIndex v) Q E s:=by
 cases p with
 |none=>exact slicePart_none h
 |int i t=>exact slicePart_int h
theorem pK{sl:QL}{vl vu:QI}{lo hi:Option Int}{n:Nat}{Q:Int×Int×Nat->QU->Prop}(hs:s.heap.IsSliceOf sl vl vu .none)(pl:Rv vl lo)(pu:Rv vu hi)
  (h:Q (((sIx n 0 lo:Nat):Int),1,sIx n n hi-sIx n 0 lo) s):QW (model prog w) A (Builtin.Slice.sliceApplied (.ref sl) (pure (n:Int))) Q E s:=by
 obtain⟨os,hos,hcs,hds⟩:=id hs;unfold Builtin.Slice.sliceApplied Builtin.Slice.sliceFields;refine Q5 (Q5 (Rx hos hds (x:=vl) rfl (Q5 (Rx hos hds (x:=vu) rfl (Q5 (Rx hos hds (x:=.none) rfl (Q4 ?_)))))));refine Q5 (slicePart_none ?_);show QW _ _ (if((1:Int)==0)=true then _ else _) _ _ s;rw[if_neg (by decide)];refine Q5 (sk pl (Q5 (sk pu (Q5 (Q4 ?_)))));show QW _ _ (match Builtin.Slice.sliceAdjust lo hi 1 (n:Int)with|(lo,hi)=>pure (lo,(1:Int),Builtin.Slice.slicePlaces lo hi 1)) _ _ s;rw[yH lo hi n];show QW _ _ (pure (((sIx n 0 lo:Nat):Int),(1:Int),Builtin.Slice.slicePlaces ((sIx n 0 lo:Nat):Int) ((sIx n n hi:Nat):Int) 1)) _ _ s;rw[yK];exact Q4 h
theorem B2(xs:Array QI)(i k:Nat):((List.range k).filterMap λ(m:Nat)=>xs[((i:Int)+(m:Int)*1).toNat]?).toArray=((xs.toList.drop i).take k).toArray:=by
 have e:(λ(m:Nat)=>xs[((i:Int)+(m:Int)*1).toNat]?)=λm=>xs[i+m]?:=by
  funext m
  have:((i:Int)+(m:Int)*1).toNat=i+m:=by omega
  rw[this]
 rw[e]
 have:=pick_run xs i k
 rw[List.filterMap_map]at this;have e2:((λx=>xs[x]?)∘λx=>i+x)=λm=>xs[i+m]?:=rfl;rw[e2]at this;rw[this]
theorem zB{t sl:QL}{items:Array QI}{vl vu:QI}{lo hi:Option Int}{Q:QI->QU->Prop}(ht:QP s.heap t items)(hs:s.heap.IsSliceOf sl vl vu .none)(pl:Rv vl lo)(pu:Rv vu hi)
  (hw:¬(sIx items.size 0 lo=0/\sIx items.size items.size hi=items.size))
  (h:Q (.ref s.heap.objs.size) {s with heap:=s.heap.push {cls:=.type "tuple",data:=.seq ((items.toList.drop (sIx items.size 0 lo)).take (sIx items.size items.size hi-sIx items.size 0 lo)).toArray}})
  (hsz:items.size<=QO):QW (model prog w) A (getItem (.ref t) (.ref sl)) Q E s:=by
 have htake:sizeOk (.seq ((items.toList.drop (sIx items.size 0 lo)).take (sIx items.size items.size hi-sIx items.size 0 lo)).toArray):=by
  show((items.toList.drop (sIx items.size 0 lo)).take (sIx items.size items.size hi-sIx items.size 0 lo)).toArray.size<=QO;rw[M8,Nh,Nt,Array.length_toList];omega
 have hj:sIx items.size items.size hi<=items.size:=GA _ _ (M3 _) hi;obtain⟨os,hos,hcs,hds⟩:=id hs;have hTs:s.TypeIs (.ref sl) "slice":=⟨os,hos,hcs⟩
 unfold getItem
 try with_reducible refine Ry ?_
 first|refine Q5 (Q4 ?_)|skip
 refine Q5 (wpAny_sequenceKey ht.typeIs (by decide) ?_);refine Q5 (Rz (name:=Str.ofString "__getitem__") ht.typeIs Qs
  (RA Qs ht.typeIs entry_tuple_getitem ?_ (args_tuple_getitem _ _)))
 show QW _ _ (Builtin.Tuple.tupleItemsOf (.ref t) >>= _) _ _ s;refine Q5 (tupleItemsOf_ ht ?_);refine Q5 (RB hTs ?_);rw[if_pos (by decide)];refine Q5 (pK hs pl pu ?_);have hno:¬((((sIx items.size 0 lo:Nat):Int)==0&&(1:Int)==1&&(sIx items.size items.size hi-sIx items.size 0 lo)==items.size)=true):=by
  intro q;rw[Nu,Nu]at q;have q1:((sIx items.size 0 lo:Nat):Int)=0:=eq_of_beq q.1.1;have q2:sIx items.size items.size hi-sIx items.size 0 lo=items.size:=eq_of_beq q.2;exact hw ⟨by omega,by omega⟩
 show QW _ _ (if(((sIx items.size 0 lo:Nat):Int)==0&&(1:Int)==1&&(sIx items.size items.size hi-sIx items.size 0 lo)==items.size)=true then _ else _) _ _ s;rw[if_neg hno,B2]
 first
  |exact Q5 (m:=Builtin.Tuple.tupleExact _) (RC (Q4 ⟨_,rfl,Q4 h⟩) htake)
  |exact Q5 (m:=Builtin.Tuple.tupleExact _) (RC (Q5 (Q4 (Q4 ⟨_,rfl,Q4 h⟩))) htake)
  |exact Q5 (Q5 (m:=Builtin.Tuple.tupleExact _) (RC (Q4 (Q4 ⟨_,rfl,Q4 h⟩)) htake))
  |exact Q5 (Q5 (m:=Builtin.Tuple.tupleExact _) (RC (Q4 ⟨_,rfl,Q4 h⟩) htake))
end
end HT
namespace L2
open PySem PySem.Spec PyProof.Rows
abbrev TO:=St->Hp->(Option Int->Hp->Prop)->Prop
def PO(X:Cx)(e:Option QX)(t:TO):Prop:=
 ∀(pins:List (QL×Obj))(s:QU)(σ:St)(H:Hp)(Q:Option Int->Hp->Prop),Inv X pins σ H s->t σ H Q->
  QW (model X.prog X.w) X.A (evalPart e X.env) (λu s'=>∃o H',Inv X pins σ H' s'/\Rv u o/\Q o H') X.xe s
def EZ:TO:=λ_ H Q=>Q none H
def Jo(t:TE):TO:=λσ H Q=>t σ H λx H1=>∃i,x=.int i/\Q (some i) H1
section
variable{X:Cx}{e:QX}{te:TE}{lo hi:Option QX}{tl th:TO}{pos p2:Pos}
theorem EF:PO X none EZ:=by
 intro pins s σ H Q I h;rw[RD];exact Q4 ⟨none,H,I,.none,h⟩
theorem DN(h:PE X e te):PO X (some e) (Jo te):=by
 intro pins s σ H Q I hw;rw[evalPart_some];refine eQ (h pins s σ H _ I hw) λu s1 ⟨x,H1,I1,r1,q1⟩=>?_;obtain⟨i,rfl,q⟩:=q1;obtain⟨t,rfl⟩:=r1;exact⟨some i,H1,I1,.int i t,q⟩
def JQ(X:Cx)(r:V->Option Int->Option Int->Hp->VK->Prop):Prop:=
 ∀(pins:List (QL×Obj))(s:QU)(σ:St)(H:Hp)(x:V)(v vl vu:QI)(lo hi:Option Int)(sl:QL)(Q:VK),Inv X pins σ H s->RelV x v->s.heap.IsSliceOf sl vl vu .none->Rv vl lo->Rv vu hi->r x lo hi H Q->
  ∃T id,typeLookup (.type T) "__getitem__"=pure (some (.builtin id))/\s.TypeIs v T/\QW (model X.prog X.w) X.A (getItem v (.ref sl)) (EP X pins σ Q) X.xe s
def My(r:V->Option Int->Option Int->Hp->VK->Prop)(te:TE)(tl th:TO):TE:=λσ H Q=>te σ H λx H1=>tl σ H1 λl H2=>th σ H2 λu H3=>r x l u H3 Q
theorem B9{r:V->Option Int->Option Int->Hp->VK->Prop}(hr:JQ X r)(he:PE X e te)(hl:PO X lo tl)(hu:PO X hi th):PE X (.Subscript e (.Slice lo hi none p2) pos) (My r te tl th):=by
 intro pins s σ H Q I h;refine RE (eQ (he pins s σ H _ I h) λv s1 ⟨x,H1,I1,r1,q1⟩=>?_);refine wpAny_Slice (eQ (hl pins s1 σ H1 _ I1 q1) λvl s2 ⟨l,H2,I2,pl,q2⟩=>eQ (hu pins s2 σ H2 _ I2 q2) λvu s3 ⟨u,H3,I3,pu,q3⟩=>?_);rw[RD];refine Q4 ?_;have I4:Inv X pins σ H3 {s3 with heap:=s3.heap.push {cls:=.type "slice",data:=.fields #[vl,vu,.none]}}:=I3.kept (t':=s3.toks) λb ob q=>Qk _ q;obtain⟨T,id,hT,ht,hg⟩:=hr pins {s3 with heap:=s3.heap.push {cls:=.type "slice",data:=.fields #[vl,vu,.none]}} σ H3 x v vl vu l u s3.heap.objs.size Q I4 r1 (Heap.IsSliceOf.new ..) pl pu q3;show QW (model X.prog X.w) X.A (subscriptTail e (.Slice lo hi none p2) v (.ref s3.heap.objs.size)) (EP X pins σ Q) X.xe {s3 with heap:=s3.heap.push {cls:=.type "slice",data:=.fields #[vl,vu,.none]}};exact tail_any (ops:=[.ref s3.heap.objs.size,v]) ht hT hg (by with_unfolding_all rfl)
def xc(xs:List V)(lo hi:Option Int):List V:=(xs.drop (HT.sIx xs.length 0 lo)).take (HT.sIx xs.length xs.length hi-HT.sIx xs.length 0 lo)
theorem qc(xs:List V)(lo hi:Option Int):(xc xs lo hi).length<=xs.length:=by
 unfold xc;rw[Nh,Nt];omega
def Kz(K:PD):V->Option Int->Option Int->Hp->VK->Prop:=λx lo hi H Q=>∃a xs,x=.ref a/\pY K H a xs/\
 ¬(HT.sIx xs.length 0 lo=0/\HT.sIx xs.length xs.length hi=xs.length)/\∀p,H p=none->Q (.ref p) (upd H p (.tup (xc xs lo hi)))
theorem Gi:JQ X (Kz X.K):=by
 intro pins s σ H x v vl vu lo hi sl Q I rx hs pl pu h;obtain⟨a,xs,rfl,hx,hw,q⟩:=h;cases rx;obtain⟨its,r,ht,hz⟩:=I.tuple hx;have hlen:its.toArray.size=xs.length:=by rw[M8];exact r.length.symm
 refine⟨"tuple",_,PyProof.Rows.slot_tuple_getitem.lookup,ht.typeIs,?_⟩;refine HT.zB ht hs pl pu (by rw[hlen];exact hw) ?_ (by rw[hlen];exact hz);rw[hlen];refine⟨.ref s.heap.objs.size,_,I.laid (t':=s.toks) (o:=.tup (xc xs lo hi)) (λb ob q=>Qk _ q) (M3 _) ?_,rfl,q _ (I.hok.fresh (M3 _))⟩;exact⟨MS (qc xs lo hi) hz,_,(r.drop (HT.sIx xs.length 0 lo)).take (HT.sIx xs.length xs.length hi-HT.sIx xs.length 0 lo),IsTup.new _ _⟩
def Ia(K:PD):R2:=λx y H Q=>∃a b xs ys,x=.ref a/\y=.ref b/\pY K H a xs/\pY K H b ys/\xs≠[]/\xs.length+ys.length<=QO/\
 (ys=[]->Q (.ref a) H)/\(ys≠[]->∀p,H p=none->Q (.ref p) (upd H p (.tup (xs++ys))))
theorem Vals.nil_iff{xs:List V}{us:List QI}(r:Vals xs us):us=[]↔xs=[]:=by
 cases r with
 |nil=>simp
 |cons _ _=>simp
theorem EC:kY X (Ra .Add) (Ia X.K):=by
 intro pins s σ H x y v u Q I rx ry h;obtain⟨a,b,xs,ys,rfl,rfl,ha,hb,hx,hz,q1,q2⟩:=h;cases rx;cases ry;obtain⟨its,r1,p1,_⟩:=I.tuple ha;obtain⟨its2,r2,p2,_⟩:=I.tuple hb;refine HT.J8 p1 p2 (λz=>hx (r1.nil_iff.mp z)) (λz=>⟨.ref a,H,I,rfl,q1 (r2.nil_iff.mp z)⟩) (λz=>?_) (by rw[<-r1.length,<-r2.length];exact hz);refine⟨.ref s.heap.objs.size,_,I.laid (t':=s.toks) (o:=.tup (xs++ys)) (λb ob q=>Qk _ q) (M3 _) ?_,rfl,q2 (λw=>z (r2.nil_iff.mpr w)) _ (I.hok.fresh (M3 _))⟩;exact⟨by rw[Np];exact hz,_,r1.append r2,IsTup.new _ _⟩
end
def E5(n:Nat)(i:Int):Option Nat:=if 0<=i then(if i<n then some i.toNat else none)else if -(n:Int)<=i then some (i+n).toNat else none
def oa{α:Type}(xs:List α)(i:Int):Option α:=(E5 xs.length i).bind λj=>xs[j]?
theorem EI{n:Nat}{i:Int}{j:Nat}(h:E5 n i=some j):seqIndex? i n=some j/\j<n/\-(n:Int)<=i/\i<n:=by
 unfold E5 at h;by_cases h0:0<=i
 ·rw[if_pos h0]at h;by_cases h1:i<n
  ·rw[if_pos h1]at h;have e:i.toNat=j:=Option.some.inj h;exact⟨by rw[seqIndex_of h0 h1,e],by omega,by omega,h1⟩
  ·rw[if_neg h1]at h;cases h
 ·rw[if_neg h0]at h;by_cases h1:-(n:Int)<=i
  ·rw[if_pos h1]at h;have e:(i+n).toNat=j:=Option.some.inj h;exact⟨by rw[seqIndex_neg ‹0› h1,e],by omega,h1,by omega⟩
  ·rw[if_neg h1]at h;cases h
theorem vg{α:Type}{xs:List α}{i:Int}{v:α}(h:oa xs i=some v):∃j,seqIndex? i xs.length=some j/\xs[j]?=some v/\j<xs.length/\-(xs.length:Int)<=i/\i<xs.length:=by
 unfold oa at h;cases e:E5 xs.length i with
 |none=>rw[e]at h;cases h
 |some j=>
  rw[e]at h;obtain⟨h1,h2,h3,h4⟩:=EI e;exact⟨j,h1,h,h2,h3,h4⟩
theorem EV{α:Type}{xs:List α}{j:Nat}{v:α}(h:xs[j]?=some v):oa xs (j:Int)=some v:=by
 have hj:j<xs.length:=(List.getElem?_eq_some_iff.mp h).1;have e:E5 xs.length (j:Int)=some j:=by
  unfold E5;rw[if_pos ‹0›,if_pos ‹0›];simp
 unfold oa;rw[e];exact h
def oA(b:QX):Prop:=∀o i,subscripted b false o i=operate [o,i] (getItem o i)
def Iy(X:Cx)(r:R2):Prop:=
 ∀(value slice:QX)(pins:List (QL×Obj))(s:QU)(σ:St)(H:Hp)(x y:V)(v u:QI)(Q:VK),Inv X pins σ H s->RelV x v->RelV y u->r x y H Q->
  subscripted slice false v u=operate [v,u] (getItem v u)->QW (model X.prog X.w) X.A (subscriptTail value slice v u) (EP X pins σ Q) X.xe s
def Mw(X:Cx)(id:String)(r:V->List V->Hp->VK->Prop):Prop:=
 ∀(pins:List (QL×Obj))(s:QU)(σ:St)(H:Hp)(x:V)(xs:List V)(v:QI)(us:List QI)(Q:VK),Inv X pins σ H s->RelV x v->Vals xs us->r x xs H Q->
  QW (model X.prog X.w) X.A (call (.builtin id) (v::us)) (EP X pins σ Q) X.xe s
section
variable{X:Cx}{a b:QX}{ta tb:TE}{pos:Pos}
theorem Fq{r:R2}(hr:Iy X r)(ha:PE X a ta)(hb:PE X b tb)(hs:oA b):PE X (.Subscript a b pos) (IV r ta tb):=by
 intro pins s σ H Q I h;exact RE (GL ha hb I h λv u s2 x y H2 I2 rx ry q=>hr a b pins s2 σ H2 x y v u Q I2 rx ry q (hs _ _))
def Lh(K:PD):R2:=λx y H Q=>∃p xs i v,x=.ref p/\y=.int i/\n0 K H p xs/\oa xs i=some v/\Q v H
def Lv(K:PD):R2:=λx y H Q=>∃p xs i v,x=.ref p/\y=.int i/\pY K H p xs/\oa xs i=some v/\Q v H
def K2:R2:=λx y H Q=>∃z i c,x=.str z/\y=.int i/\z.length<=QO/\oa z.cps.toList i=some c/\Q (.str ⟨#[c]⟩) H
theorem zK:Iy X (Lh X.K):=by
 intro value slice pins s σ H x y v u Q I rx ry h hs;obtain⟨p,xs,i,z,rfl,rfl,hq,he,q⟩:=h;cases rx;obtain⟨t,rfl⟩:=ry;obtain⟨its,r,pl,hz⟩:=I.list hq;obtain⟨j,h1,h2,h3,h4,h5⟩:=vg he;obtain⟨w,ew,rw'⟩:=r.get h2;have hl:=r.length;have hn:=pM;have fin:EP X pins σ Q w s:=⟨z,H,I,rw',q⟩
 by_cases h0:0<=i
 ·have hj:i.toNat=j:=by
   rw[seqIndex_of h0 h5]at h1;exact Option.some.inj h1
  exact item_listR pl.isList h0 ‹0› (by rw[hj];simpa using ew) fin hs
 ·have hj:(i+(its.toArray.size:Int)).toNat=j:=by
   rw[seqIndex_neg ‹0› h4]at h1;rw[M8,<-hl];exact Option.some.inj h1
  exact subscriptTail_builtinR (x:=w) pl.isList.typeIs slot_list_getitem.lookup
   (wpAny_getItem_list_neg (Q:=λr s'=>r=w/\EP X pins σ Q r s') pl.isList ‹0› (by rw[M8]<;>omega) ‹0› (by rw[hj];simpa using ew) ⟨rfl,fin⟩) hs
theorem Gp:Iy X (Lv X.K):=by
 intro value slice pins s σ H x y v u Q I rx ry h hs;obtain⟨p,xs,i,z,rfl,rfl,hq,he,q⟩:=h;cases rx;obtain⟨t,rfl⟩:=ry;obtain⟨its,r,pl,hz⟩:=I.tuple hq;obtain⟨j,h1,h2,h3,h4,h5⟩:=vg he;obtain⟨w,ew,rw'⟩:=r.get h2;have hl:=r.length;have hn:=pM;have fin:EP X pins σ Q w s:=⟨z,H,I,rw',q⟩
 exact subscriptTail_builtinR (x:=w) pl.typeIs slot_tuple_getitem.lookup
  (getItem_tuple (j:=j) (Q:=λr s'=>r=w/\EP X pins σ Q r s') pl ‹0› ‹0› (by rw[M8,<-hl];exact h1) (by simpa using ew) ⟨rfl,fin⟩) hs
theorem GO:Iy X K2:=by
 intro value slice pins s σ H x y v u Q I rx ry h hs;obtain⟨z,i,c,rfl,rfl,hz,he,q⟩:=h;obtain⟨t,rfl⟩:=rx;obtain⟨t',rfl⟩:=ry;obtain⟨j,h1,h2,h3,h4,h5⟩:=vg he;have hl:z.cps.toList.length=z.length:=by simp[Str.length]
 rw[hl]at h1 h4 h5;have hn:=pM;exact tail_any (typeIs_str s z t) slot_str_getitem.lookup (getItem_str (c:=c) (by
  have e1:decide (i < -(2^63:Int))=false:=decide_eq_false ‹0›;have e2:decide (i>=2^63)=false:=decide_eq_false ‹0›;rw[e1,e2,Bool.or_false]) (by rw[h1];simpa using h2) ⟨.str ⟨#[c]⟩,H,I.tok _,⟨_,rfl⟩,q⟩) hs
theorem uW(lo hi:Option Int)(n:Nat):(sliceBounds lo hi none n).1=((HT.sIx n 0 lo:Nat):Int)/\(sliceBounds lo hi none n).2.1=((HT.sIx n n hi:Nat):Int)/\(sliceBounds lo hi none n).2.2=1:=by
 refine⟨?_,?_,rfl⟩
 ·cases lo with
  |none=>simp[sliceBounds,HT.sIx]
  |some i=>
   simp only[sliceBounds,HT.sIx,Nv,show(1:Int)>0 by decide,if_true];by_cases h:i<0
   ·simp only[h,if_true]<;>omega
   ·simp only[h,if_false]<;>omega
 ·cases hi with
  |none=>simp[sliceBounds,HT.sIx]
  |some i=>
   simp only[sliceBounds,HT.sIx,Nv,show(1:Int)>0 by decide,if_true];by_cases h:i<0
   ·simp only[h,if_true]<;>omega
   ·simp only[h,if_false]<;>omega
theorem sP(its:List QI)(lo hi:Option Int):slicePick its.toArray lo hi none=((its.drop (HT.sIx its.length 0 lo)).take (HT.sIx its.length its.length hi-HT.sIx its.length 0 lo)).toArray:=by
 obtain⟨h1,h2,h3⟩:=uW lo hi its.toArray.size;unfold slicePick;rw[h1,h2,h3];simp only[sliceRange_one,pick_run,M8]<;>rfl
def LD(K:PD):V->Option Int->Option Int->Hp->VK->Prop:=λx lo hi H Q=>∃a xs,x=.ref a/\n0 K H a xs/\∀p,H p=none->Q (.ref p) (upd H p (.lst (xc xs lo hi)))
theorem D6:JQ X (LD X.K):=by
 intro pins s σ H x v vl vu lo hi sl Q I rx hs pl pu h;obtain⟨a,xs,rfl,hx,q⟩:=h;cases rx;obtain⟨its,r,ht,hz⟩:=I.list hx;have hlen:=r.length;refine⟨"list",_,slot_list_getitem.lookup,ht.isList.typeIs,?_⟩;refine wpAny_getItem_list_slice ht.isList hs pl pu .none (by simp) ?_ (by rw[M8]<;>omega);rw[sP,<-hlen];refine⟨.ref s.heap.objs.size,_,I.laid (t':=s.toks) (o:=.lst (xc xs lo hi)) (λb ob q=>Qk _ q) (M3 _) ?_,rfl,q _ (I.hok.fresh (M3 _))⟩;exact⟨MS (qc xs lo hi) hz,_,0,(r.drop (HT.sIx xs.length 0 lo)).take (HT.sIx xs.length xs.length hi-HT.sIx xs.length 0 lo),Ql _ rfl⟩
def BO:V->Bool
 |.non=>true
 |.bl _=>true
 |.int _=>true
 |.str _=>true
 |_=>false
def LX:V->V->Bool
 |.non,.non=>true
 |.bl a,.bl b=>a==b
 |.bl a,.int b=>(if a then 1 else 0)==b
 |.int a,.bl b=>a==(if b then 1 else 0)
 |.int a,.int b=>a==b
 |.str a,.str b=>a==b
 |_,_=>false
theorem HE{A:QT}{s:QU}{y x:V}{u v:QI}(ry:RelV y u)(rx:RelV x v)(fy:BO y=true)(fx:BO x=true):SeqAt.EqAt A s u v (LX y x):=by
 cases y with
 |non=>
  cases ry;cases x with
  |non=>cases rx;exact SeqAt.EqAt.same _
  |bl b=>cases rx;exact SeqAt.EqAt.none_bool b
  |int b=>obtain⟨t,rfl⟩:=rx;exact SeqAt.EqAt.none_int b t
  |str b=>obtain⟨t,rfl⟩:=rx;exact SeqAt.EqAt.none_str b t
  |_=>exact absurd (show false=true from fx) M9
 |bl a=>
  cases ry;cases x with
  |non=>cases rx;exact SeqAt.EqAt.bool_none a
  |bl b=>cases rx;exact SeqAt.EqAt.bool_bool a b
  |int b=>obtain⟨t,rfl⟩:=rx;exact SeqAt.EqAt.bool_int a b t
  |str b=>obtain⟨t,rfl⟩:=rx;exact SeqAt.EqAt.bool_str a b t
  |_=>exact absurd (show false=true from fx) M9
 |int a=>
  obtain⟨t',rfl⟩:=ry;cases x with
  |non=>cases rx;exact SeqAt.EqAt.int_none a t'
  |bl b=>cases rx;exact SeqAt.EqAt.int_bool a t' b
  |int b=>obtain⟨t,rfl⟩:=rx;exact SeqAt.EqAt.int_int a t' b t
  |str b=>obtain⟨t,rfl⟩:=rx;exact SeqAt.EqAt.int_str a t' b t
  |_=>exact absurd (show false=true from fx) M9
 |str a=>
  obtain⟨t',rfl⟩:=ry;cases x with
  |non=>cases rx;exact SeqAt.EqAt.str_none a t'
  |bl b=>cases rx;exact SeqAt.EqAt.str_bool a t' b
  |int b=>obtain⟨t,rfl⟩:=rx;exact SeqAt.EqAt.str_int a t' b t
  |str b=>obtain⟨t,rfl⟩:=rx;exact SeqAt.EqAt.str_str a t' b t
  |_=>exact absurd (show false=true from fx) M9
 |_=>exact absurd (show false=true from fy) M9
theorem oE:dZ X (.builtin "len") (λxs H Q=>∃p ys,xs=[.ref p]/\(n0 X.K H p ys\/pY X.K H p ys)/\Q (.int ys.length) H):=by
 intro pins s σ H xs us Q I r h;obtain⟨p,ys,rfl,hq,q⟩:=h;obtain⟨u,rfl,rx⟩:=vals1 r;cases rx;have hn:=pM;rcases hq with hq|hq
 ·obtain⟨its,r',pl,hz⟩:=I.list hq;have hlen:=r'.length;exact Calls.call_len_list pl.isList (by simp only[M8]<;>omega) ⟨.int ys.length,H,I.tok _,⟨s.toks+1,by rw[M8,hlen]⟩,q⟩
 ·obtain⟨its,r',pl,hz⟩:=I.tuple hq;have hlen:=r'.length;exact len_tuple pl (by simp only[M8]<;>omega) ⟨.int ys.length,H,I.tok _,⟨s.toks+1,by rw[M8,hlen]⟩,q⟩
theorem vN:dZ X (.builtin "len") (λxs H Q=>∃z,xs=[.str z]/\z.length<=QO/\Q (.int z.length) H):=by
 intro pins s σ H xs us Q I r h;obtain⟨z,rfl,hz,q⟩:=h;obtain⟨u,rfl,t,rfl⟩:=vals1 r;have hn:=pM;exact len_str ‹0› ⟨.int z.length,H,I.tok _,⟨_,rfl⟩,q⟩
theorem oO:dZ X (.type "list") (λxs H Q=>∃p ys,xs=[.ref p]/\(n0 X.K H p ys\/pY X.K H p ys)/\∀l,H l=none->Q (.ref l) (upd H l (.lst ys))):=by
 intro pins s σ H xs us Q I r h;obtain⟨p,ys,rfl,hq,q⟩:=h;obtain⟨u,rfl,rx⟩:=vals1 r;cases rx;have fin:∀(its:List QI),Vals ys its->ys.length<=QO->∀(h':QN)(c':Nat),(∀b o',s.heap.get? b=some o'->h'.get? b=some o')->
   h'.get? s.heap.objs.size=some {cls:=.type "list",dict:=none,data:=.seq its.toArray c',slots:=#[]}->EP X pins σ Q (.ref s.heap.objs.size) {s with heap:=h'}:=λits r' hz h' c' kp e=>
  ⟨.ref s.heap.objs.size,_,I.laid (t':=s.toks) kp (M3 _) (show cM X.prog X.w _ h' _ (.lst ys)from⟨hz,its,c',r',e⟩),rfl,q _ (I.hok.fresh (M3 _))⟩
 rcases hq with hq|hq
 ·obtain⟨its,r',pl,hz⟩:=I.list hq;have hlen:=r'.length;obtain⟨o,ho,hc,n,hd⟩:=pl.isList;exact call_list_seq p (.inl rfl) ho hc hd (λh' c' kp e=>fin its r' hz h' c' kp e) (by simp only[M8]<;>omega)
 ·obtain⟨its,r',pl,hz⟩:=I.tuple hq;have hlen:=r'.length;obtain⟨o,ho,hc,n,hd⟩:=pl;exact call_list_seq p (.inr rfl) ho hc hd (λh' c' kp e=>fin its r' hz h' c' kp e) (by simp only[M8]<;>omega)
theorem nE:dZ X (.type "tuple") (λxs H Q=>∃p ys,xs=[.ref p]/\((n0 X.K H p ys/\∀l,H l=none->Q (.ref l) (upd H l (.tup ys)))\/(pY X.K H p ys/\Q (.ref p) H))):=by
 intro pins s σ H xs us Q I r h;obtain⟨p,ys,rfl,h⟩:=h;obtain⟨u,rfl,rx⟩:=vals1 r;cases rx;rcases h with⟨hq,q⟩|⟨hq,q⟩
 ·obtain⟨its,r',pl,hz⟩:=I.list hq;have hlen:=r'.length;refine call_tuple_list pl.isList (λh' kp=>?_) (by simp only[M8]<;>omega);have I1:Inv X pins σ H {s with heap:=h'}:=I.kept (t':=s.toks) kp;have I2:Inv X pins σ (upd H h'.objs.size (.tup ys)) {s with heap:=h'.push {cls:=.type "tuple",data:=.seq its.toArray}}:=
   I1.laid (t':=s.toks) (λb o e=>Qk _ e) (M3 _) (show cM X.prog X.w _ _ _ (.tup ys)from⟨hz,its,r',IsTup.new _ _⟩)
  exact⟨.ref h'.objs.size,_,I2,rfl,q _ (I1.hok.fresh (M3 _))⟩
 ·obtain⟨its,r',pl,hz⟩:=I.tuple hq;exact call_tuple_same pl ⟨.ref p,H,I,rfl,q⟩
def Ml(K:PD)(T:String)(x:V)(H:Hp):Prop:=match x with
 |.str _=>T="str"
 |.int _=>T="int"
 |.ref p=>(T="list"/\∃xs,n0 K H p xs)\/(T="tuple"/\∃o,K.lookup p=some o/\o.cls=.type "tuple"/\o.dict=none) \/
   (T="dict"/\((∃kvs,H p=some (.dK kvs))\/∃kvs,H p=some (.dT kvs)))\/(T="set"/\∃S n,H p=some (.set S n))
 |_=>False
theorem G3{pins:List (QL×Obj)}{σ:St}{H:Hp}{s:QU}{T:String}{x:V}{v:QI}(I:Inv X pins σ H s)(r:RelV x v)(ty:Ml X.K T x H):
  s.TypeIs v T/\∀a,v=.ref a->∃ob,s.heap.get? a=some ob/\ob.dict=none:=by
 cases x with
 |str z=>
  obtain⟨t,rfl⟩:=r;cases(show T="str"from ty);exact⟨typeIs_str s z t,λ_ e=>nomatch e⟩
 |int i=>
  obtain⟨t,rfl⟩:=r;cases(show T="int"from ty);exact⟨typeIs_int s i t,λ_ e=>nomatch e⟩
 |ref p=>
  cases r;rcases ty with⟨rfl,xs,hq⟩|⟨rfl,o,hk,hc,hd⟩|⟨rfl,hk⟩|⟨rfl,S,n,hk⟩
  ·obtain⟨its,_,pl,_⟩:=I.list hq;refine⟨pl.isList.typeIs,λa e=>?_⟩;cases e;obtain⟨o,n,e,c,hd,_⟩:=pl;exact⟨o,e,hd⟩
  ·refine⟨⟨o,I.kIn p o hk,hc⟩,λa e=>?_⟩;cases e;exact⟨o,I.kIn _ o hk,hd⟩
  ·have z:∃o,s.heap.get? p=some o/\o.ExactDict:=by
    rcases hk with⟨kvs,hk⟩|⟨kvs,hk⟩
    ·obtain⟨_,_,_,_,o,_,_,e,ex,_⟩:=I.hok p _ hk;exact⟨o,e,ex⟩
    ·obtain⟨_,_,_,_,o,_,_,e,ex,_⟩:=I.hok p _ hk;exact⟨o,e,ex⟩
   obtain⟨o,e,ex⟩:=z;refine⟨⟨o,e,ex.1⟩,λa e2=>?_⟩;cases e2;exact⟨o,e,ex.2.1⟩
  ·obtain⟨o,_,_,_,e,ex,_⟩:=I.hok p _ hk;refine⟨⟨o,e,ex.1⟩,λa e2=>?_⟩;cases e2;exact⟨o,e,ex.2.1⟩
 |_=>exact False.elim ty
def ML(K:PD)(T:String)(r:V->List V->Hp->VK->Prop)(to:TE)(t:TA):TE:=λσ H Q=>to σ H λx H1=>Ml K T x H1/\t σ H1 λxs H2=>r x xs H2 Q
variable{o e:QX}{es:List QX}{to:TE}{t:TA}{name:Str}{apos cpos:Pos}{T id:String}{r:V->List V->Hp->VK->Prop}
theorem E9(pa:PlainAttrs T)(slot:Slot T name id)(hty:typeOf (.builtin id)=pure (.type "method_descriptor"))(hm:Mw X id r)(ho:PE X o to)(ha:PA X (e::es) t)
  (hbase:RF o name X.env (eval o X.env)=eval o X.env:=by rfl)
  (hfew:((backTo cpos (QY (e::es) X.env)).all (fun x=>!x.1) && (backToKw cpos (Ri [] X.env)).all (fun x=>x.1.isSome)
   && decide ((e::es).length+([]:List RG).length+(if([]:List RG).isEmpty then 0 else 1)<30))=true:=by rfl)
  (hline:(apos.endLine==cpos.line)=true:=by rfl) (hs:QY (e::es) X.env=(false,eval e X.env)::QY es X.env:=by rfl) (hplain:(backTo cpos (QY es X.env)).any (·.1)=false:=by rfl):
  PE X (.Call (.Attribute o name apos) (e::es) [] cpos) (ML X.K T r to t):=by
 intro pins s σ H Q I h;refine wpAny_Call_method_late hbase hfew hline rfl (eQ (ho pins s σ H _ I h) λv s1 ⟨x,H1,I1,r1,ty,q1⟩=>?_);obtain⟨h1,h2⟩:=G3 I1 r1 ty;refine⟨T,id,pa,slot,hty,h1,h2,?_⟩;have hA:=ha cpos pins s1 σ H1 _ I1 q1;rw[hs]at hA ⊢;refine Calls.callWith_builtin (by show(false||(backTo cpos (QY es X.env)).any (·.1))=false;rw[hplain]<;>rfl) (Calls.evalArgs_plain ?_);exact eQ hA λus s2 ⟨vs,H2,I2,r2,q2⟩=>hm pins s2 σ H2 x vs v us Q I2 r1 r2 q2
end
def LV(X:Cx)(id:String)(r:V->List V->Hp->VK->Prop):Prop:=
 ∀(pins:List (QL×Obj))(s:QU)(σ:St)(H:Hp)(x:V)(xs:List V)(v:QI)(us:List QI)(Q:VK),Inv X pins σ H s->RelV x v->Vals xs us->r x xs H Q->
  QW (model X.prog X.w) X.A (call (.builtin id) (v::us)) (EP X pins σ Q) X.xe s
theorem Vals.one:∀{x:V}{us:List QI},Vals [x] us->∃u,us=[u]/\RelV x u
 |_,_,.cons r .nil=>⟨_,rfl,r⟩
section
variable{X:Cx}{pins:List (QL×Obj)}{σ:St}{H:Hp}{s:QU}{l b:QL}{xs ys zs:List V}
theorem Inv.lset{its its':List QI}{n:Nat}{f:Array QI->Array QI}{t':Nat}(I:Inv X pins σ H s)(hH:H l=some (.lst xs))
  (e:s.heap.get? l=some {cls:=.type "list",data:=.seq its.toArray n}) (hf:f its.toArray=its'.toArray) (hv:Vals ys its') (hz:ys.length<=QO):
  Inv X pins σ (upd H l (.lst ys)) {s with heap:=s.heap.update l (Obj.mapSeq f),toks:=t'}:=by
 have q:=PySem.IsL.update e f;rw[hf]at q;refine I.write (x:=l) (e:=l) (by rw[hH];exact trivial) (.inl rfl) (λb' u hb hu=>(Heap.get?_update_other s.heap (Obj.mapSeq f) (Ne.symm hb)).trans hu) ⟨_,q⟩ ?_;exact⟨hz,its',_,hv,q⟩
theorem Inv.lnew{its:List QI}{t':Nat}(I:Inv X pins σ H s)(hv:Vals ys its)(hz:ys.length<=QO):
  Inv X pins σ (upd H s.heap.objs.size (.lst ys)) {s with heap:=s.heap.push {cls:=.type "list",data:=.seq its.toArray},toks:=t'}:=
 I.laid (λ_ _ q=>Qk _ q) (M3 _) ⟨hz,its,0,hv,Ql _ rfl⟩
theorem Inv.fresh(I:Inv X pins σ H s):H s.heap.objs.size=none:=I.hok.fresh (M3 _)
theorem Inv.lstM(I:Inv X pins σ H s)(hH:H l=some (.lst xs)):xs.length<=QO/\∃(its:List QI)(n:Nat),Vals xs its/\xs.length=its.length/\s.heap.get? l=some {cls:=.type "list",data:=.seq its.toArray n}:=by
 obtain⟨z,its,n,r,e⟩:=I.hok l _ hH;exact⟨z,its,n,r,r.length,e⟩
end
section
variable{X:Cx}
def zA:V->List V->Hp->VK->Prop:=λx vs H Q=>∃l xs y,x=.ref l/\vs=[y]/\H l=some (.lst xs)/\xs.length<QO/\Q .non (upd H l (.lst (xs++[y])))
theorem dI:LV X "list.append" zA:=by
 intro pins s σ H x vs v us Q I rx rv h;obtain⟨l,xs,y,rfl,rfl,hH,hz,q⟩:=h;cases rx;obtain⟨u,rfl,ru⟩:=rv.one;obtain⟨z,its,n,r,hl,e⟩:=I.lstM hH;refine call_meets F.slot_list_append ⟨_,e,rfl⟩ F.entry_list_append (F.args_list_append_2 _ _) (PySem.list_append l its.toArray n u (by rw[M8];omega)) ⟨e,?_⟩;refine⟨.non,_,I.lset (its':=its++[u]) hH e (by simp) (r.append (.cons ru .nil)) ?_,rfl,q⟩;rw[Np,Nw];omega
end
end L2
namespace Att
open PySem PySem.W PySem.Calls PyProof.Rows
theorem qt{P:Params}{h:QN}:∀(ns:List Int)(vs:List QI),WellAll P h vs (ns.map WData.int)->IntsAre vs ns:=by
 intro ns
 induction ns with
 |nil=>
  intro vs w;rw[Nx]at w;cases w;exact .nil
 |cons n ns ih=>
  intro vs w;rw[Ny]at w;cases w with
  |cons a b=>
   cases a;exact .cons _ _ (ih _ b)
theorem AR{l:OpenLaw}{n:Nat}(hn:l.most=some n){P:Params}{h:QN}{args:List WData}{vals:List QI}
  (hpre:l.row.toRowW.claim.pre args=true) (hwl:WellAll P h vals args):
  ∃a vs ns,vals=[Value.ref a]/\args=[WData.list (ns.map WData.int)]/\h.get? a=some {cls:=.type "list",data:=.seq vs.toArray}/\IntsAre vs ns/\ns.length<=n:=by
 have hsh:WShape.hasAll [] args [.list .int]=true:=(pre_splitW hpre).1;have hc:l.pre.holds [] {args:=args}=true:=(pre_splitW hpre).2;obtain⟨d,r,rfl,h1,h2⟩:=hasAllW_cons hsh;obtain rfl:=hasAllW_nil h2;obtain⟨xs,rfl,h3⟩:=hasW_list h1;obtain⟨ns,rfl⟩:=items_int h3;have hlen:ns.length<=n:=by
  unfold OpenLaw.pre at hc;have h4:(WTm.not (.lt (.lit (.int (n:Int))) (.len (.arg 0)))).holds [] {args:=[.list (ns.map .int)]}=true:=by
   have h4:=(holds_andW hc).1;rw[hn]at h4;exact h4
  have h5:=condW_of h4 (w_not (w_lt w_lit (w_len_list (w_arg rfl))));rw[Nq]at h5;refine Nat.le_of_not_lt λq=>?_;have q':(n:Int)<((ns.length:Nat):Int):=by omega
  first
   |(rw[decide_eq_true q']at h5;exact absurd h5 (by decide))
   |(simp at h5;omega)
 cases hwl with
 |cons w1 w2=>
  cases w2;cases w1 with
  |list ho hall=>exact⟨_,_,ns,rfl,rfl,ho,qt ns _ hall,hlen⟩
theorem Aj(l:OpenLaw)(args:List WData):l.row.toRowW.claim.post args (.bool true) args=true:=
 postW_of (r:=l.row.toRowW) (X:=(true==true))
  (show WShape.has [] (.bool true) .bool=true by first|rfl|decide|simp[WShape.has,WShape.arms,WShape.armsAll])
  (show(WTm.eq .res (.lit (.bool true))).value [] {args:=args,res:=some (.bool true),after:=args}=some (.bool (true==true))from w_eq_bool (w_res rfl) w_lit) rfl
theorem Ft{l:OpenLaw}{n:Nat}{q:QK}{loose:List Str}{XP:(Str->Option QI)->QN->Prop}{YP:QJ->QN->Prop}{d:DefRec}
  (hn:l.most=some n) (hdf:d.params.defaults=[])
  (call:∀ (w:QJ) (s₀ s₁:QU) (mg mb:Str->Option QI) (fa:QL) (o:Obj) (pm cd doc:QI) (a:QL) (vs:List QI) (ns:List Int),
   Ground q loose [] XP w s₀ mg mb s₁.heap->YP w s₁.heap->
   s₁.heap.get? fa=some o->o.data=.func (docDef d.name d.params d.body d.scope pm cd doc)->s₁.heap.CodeRec cd d.name->mg d.name=some (.ref fa)->
   s₁.heap.get? a=some {cls:=.type "list",data:=.seq vs.toArray}->IntsAre vs ns->ns.length<=n->s₁.gens=#[]->
   Rg (model l.prog w) callerA (.call (.ref fa) ⟨[.ref a],[]⟩) (λr s'=>r=.ok (.ret (.bool true))/\OldK s₁.heap s'.heap/\s'.os=s₁.os/\AllBare s'.gens) s₁):
  WalkO q loose XP YP l.row.toRowW d [] (λf vs=>PySem.call f vs):=by
 intro w s₀ s₁ mg mb G Y fa o pm cd doc dV kV ho hd hcd hD hmg hg args vals as hpre hlay hrd hwl hlo;obtain rfl:dV=.none:=Dflts.none hD hdf;obtain rfl:kV=.none:=Dflts.noKw hD;obtain⟨a,vs,ns,rfl,rfl,hobj,hints,hlen⟩:=AR hn hpre hwl;refine enter_call (codeAny_mono (call w s₀ s₁ mg mb fa o pm cd doc a vs ns G Y ho (fd_plain hd) hcd hmg hobj hints hlen hg) λr s' hq=>?_);obtain⟨rfl,h2,h3,h4⟩:=hq;exact⟨.inl ⟨.bool true,.bool true,[],rfl,λ_=>rfl,.bool true,Aj l _,λ_=>⟨List.Pairwise.nil,λ_ hm=>(nomatch hm)⟩⟩,h2,h3,h4⟩
section
variable{prog:QK}{w:QJ}{A:QT}{E:QI->QU->Prop}{s:QU}{K:Frag}
end
end Att
namespace L2
open PySem PySem.Spec PyProof.Rows
theorem uA:∀{vs:List QI}{ns:List Int},IntsAre vs ns->Vals (ns.map V.int) vs
 |_,_,.nil=>.nil
 |_,_,.cons n t h=>.cons ⟨t,rfl⟩ (uA h)
def inClass(s:QZ)(j:Nat):QZ:=match s with
 |.ClassDef _ _ _ body _ _ _ _ _ _ _=>body.getD j (.Pass ⟨0,0,0,0⟩)
 |_=>.Pass ⟨0,0,0,0⟩
def mG(s:QZ):Rp:=match s with
 |.FunctionDef _ a _ _ _ _ _ _ _ _=>a
 |_=>{posonlyargs:=[],args:=[],vararg:=none,kwonlyargs:=[],kw_defaults:=[],kwarg:=none,defaults:=[]}
def fI(s:QZ):List QZ:=match s with
 |.FunctionDef _ _ b _ _ _ _ _ _ _=>b
 |_=>[]
def aB(s:QZ):QV:=match s with
 |.FunctionDef _ _ _ _ _ _ sc _ _ _=>sc
 |_=>{kind:=.function,names:=[],isGenerator:=false,isCoroutine:=false}
abbrev E0:XK:=λ_ _ _=>False
structure xQ(K:PD)(x qual:Str)(st:QZ)(f:QL)(fd:Rm):Prop where
 ex:∃(oc:QI)(od:Option QL)(kV doc pm:QI)(an:Option QL)(cdv ct:QI)(osl:Array (Option QI)),
  fd=P0 x qual (mG st) (fI st) (aB st) .none kV doc pm an cdv ct/\K.lookup f=some ⟨oc,od,.func fd,osl⟩/\P4 K cdv qual=true
 kp:PY K (.ref f)=true
section
variable{P:QK}{w:QJ}{K:PD}{mg:Str->Option QI}{base:QN}
theorem xQ.binds{x qual:Str}{st:QZ}{f:QL}{fd:Rm}{ps:List Str}(F:xQ K x qual st f fd)
  (h:∀(kV doc pm:QI)(an:Option QL)(cdv ct:QI)(us:List QI),us.length=ps.length->bindArgs (P0 x qual (mG st) (fI st) (aB st) .none kV doc pm an cdv ct) ⟨us,[]⟩=pure (ps.zip us)):Binds K fd ps []:=by
 obtain⟨oc,od,kV,doc,pm,an,cdv,ct,osl,rfl,lk,hcd⟩:=F.ex;exact .all (h kV doc pm an cdv ct)
theorem cn{x qual:Str}{st:QZ}{f:QL}{oc:QI}{od an:Option QL}{osl:Array (Option QI)}{kV doc pm cdv ct:QI}(l:K.lookup f=some ⟨oc,od,.func (P0 x qual (mG st) (fI st) (aB st) .none kV doc pm an cdv ct),osl⟩)
  (c:P4 K cdv qual=true) (k:PY K (.ref f)=true):xQ K x qual st f (P0 x qual (mG st) (fI st) (aB st) .none kV doc pm an cdv ct):=⟨⟨oc,od,kV,doc,pm,an,cdv,ct,osl,rfl,l,c⟩,k⟩
end
section
variable{X:Cx}
theorem pv(i:Nat){x:Str}{pos:Pos}(hN:X.N[i]?=some x:=by rfl)(hv:Hs X.env.scope x:=by first|exact Or.inl rfl|exact Or.inr (Or.inl rfl)|exact Or.inr (Or.inr rfl))(hd:(x==("__debug__":Str))=false:=by decide)
  (hcd:(x==("__classdict__":Str))=false:=by decide):PE X (.Name x pos) (xn i):=G9 hN hv hd hcd
end
theorem CB{A B:Prop}(h:B):if false=true then A else B:=by
 rw[if_neg M9];exact h
theorem Dk{A B:Prop}(h:A):if true=true then A else B:=by
 rw[if_pos rfl];exact h
def bE(H H':Hp):Prop:=∀b o,H b=some o->H' b=some o
theorem bE.refl(H:Hp):bE H H:=λ_ _ h=>h
theorem bE.trans{H H1 H2:Hp}(a:bE H H1)(b:bE H1 H2):bE H H2:=λc o h=>b c o (a c o h)
theorem bE.free{H H':Hp}(e:bE H H'){l:QL}(h:H' l=Option.none):H l=Option.none:=by
 cases q:H l with
 |none=>rfl
 |some o=>
  rw[e l o q]at h;cases h
theorem bE.seq{K:PD}{H H':Hp}{a:QL}{xs:List V}(e:bE H H')(h:n0 K H a xs):n0 K H' a xs:=by
 rcases h with(h|⟨o,h⟩)|h
 ·exact .inl (.inl (e _ _ h))
 ·exact .inl (.inr ⟨o,e _ _ h⟩)
 ·exact .inr h
section
variable{κ:Type}[DecidableEq κ]
def kZ(kvs:List (κ×V))(k:κ):Option V:=(kvs.find? λkv=>decide (kv.1=k)).map (·.2)
def putK(kvs:List (κ×V))(k:κ)(v:V):List (κ×V):=
 if(kvs.any λkv=>decide (kv.1=k))=true then kvs.map (λkv=>if kv.1=k then(kv.1,v)else kv)else kvs++[(k,v)]
theorem lD{p:κ×V}{r:List (κ×V)}{k:κ}(e:p.1=k):kZ (p::r) k=some p.2:=by simp[kZ,Nz,e]
theorem lZ{p:κ×V}{r:List (κ×V)}{k:κ}(e:¬p.1=k):kZ (p::r) k=kZ r k:=by simp[kZ,Nz,e]
theorem wt(k:κ):∀kvs:List (κ×V),(kvs.any λkv=>decide (kv.1=k))=(kZ kvs k).isSome
 |[]=>rfl
 |p::r=>by
  rw[NB];by_cases e:p.1=k
  ·simp only[lD e,decide_eq_true e,NC,Option.isSome_some]
  ·rw[lZ e,decide_eq_false e,ND];exact wt k r
theorem lI(kvs:List (κ×V))(k:κ)(v:V):(putK kvs k v).length<=kvs.length+1:=by
 unfold putK;split
 ·rw[Nq];omega
 ·rw[Np,NE,NF];omega
theorem wz.isSome_eq{o:Option V}{u:Option QI}(r:wz o u):o.isSome=u.isSome:=by
 cases o with
 |none=>cases u with
  |none=>rfl
  |some _=>exact(show False from r).elim
 |some _=>cases u with
  |none=>exact(show False from r).elim
  |some _=>rfl
theorem KV.val{kvs:List (κ×V)}{vs:List (κ×QI)}(r:KV kvs vs)(k:κ):wz (kZ kvs k) (valueAt vs k):=by
 unfold KV at r
 induction r with
 |nil=>exact True.intro
 |@cons p q ps qs h t ih=>
  obtain⟨h1,h2⟩:=h;by_cases e:p.1=k
  ·have e':q.1=k:=h1.symm.trans e;have b:valueAt (q::qs) k=some q.2:=(by simp[valueAt,Nz,e']);rw[lD e,b];exact h2
  ·have e':¬q.1=k:=λz=>e (h1.trans z);have b:valueAt (q::qs) k=valueAt qs k:=(by simp[valueAt,Nz,e']);rw[lZ e,b];exact ih
theorem KV.any{kvs:List (κ×V)}{vs:List (κ×QI)}(r:KV kvs vs)(k:κ):(kvs.any λkv=>decide (kv.1=k))=vs.any λkv=>decide (kv.1=k):=by
 unfold KV at r
 induction r with
 |nil=>rfl
 |cons h t ih=>rw[NB,NB,ih,h.1]
theorem KV.repl{kvs:List (κ×V)}{vs:List (κ×QI)}(r:KV kvs vs)(k:κ){y:V}{u:QI}(ry:RelV y u):
  KV (kvs.map λkv=>if kv.1=k then(kv.1,y)else kv) (vs.map λkv=>if kv.1=k then(kv.1,u)else kv):=by
 unfold KV at r ⊢
 induction r with
 |nil=>exact .nil
 |@cons p q ps qs h t ih=>
  rw[Ny,Ny];refine .cons ?_ ih;obtain⟨h1,h2⟩:=h;by_cases e:p.1=k
  ·rw[if_pos e,if_pos (h1.symm.trans e)];exact⟨h1,ry⟩
  ·rw[if_neg e,if_neg (λz=>e (h1.trans z))];exact⟨h1,h2⟩
theorem KV.put{kvs:List (κ×V)}{vs:List (κ×QI)}(r:KV kvs vs)(k:κ){y:V}{u:QI}(ry:RelV y u):KV (putK kvs k y) (stored vs k u):=by
 unfold putK stored;rw[r.any k];by_cases e:(vs.any λkv=>decide (kv.1=k))=true
 ·rw[if_pos e,if_pos e];exact r.repl k ry
 ·rw[if_neg e,if_neg e];exact Paired.snoc r ⟨rfl,ry⟩
theorem KV.keys{kvs:List (κ×V)}{vs:List (κ×QI)}(r:KV kvs vs):kvs.map (·.1)=vs.map (·.1):=by
 unfold KV at r
 induction r with
 |nil=>rfl
 |cons h t ih=>rw[Ny,Ny,ih,h.1]
theorem KV.length{kvs:List (κ×V)}{vs:List (κ×QI)}(r:KV kvs vs):kvs.length=vs.length:=Paired.length r
end
theorem wO{P:QK}{w:QJ}{k:Key}{u:QI}(r:RelV (kV k) u):(cN P w).is k u=true:=by
 cases k with
 |inl i=>obtain⟨t,e⟩:=(show∃t,u=Value.int i t from r);subst e;exact xJ P w i t
 |inr x=>obtain⟨t,e⟩:=(show∃t,u=Value.str x t from r);subst e;exact xq P w x t
theorem uf{P:QK}{w:QJ}:∀{ks:List Key}{us:List QI},Vals (ks.map kV) us->ItemsAre (cN P w) ks us
 |[],_,r=>by rw[Nx]at r;cases r;exact .nil
 |k::ks,_,r=>by
  rw[Ny]at r;cases r with
  |cons h t=>exact .cons (wO h) (uf t)
abbrev KT(H:Hp):List (List Key×V)->List (List Key×QL×QI)->Prop:=QM λp q=>p.1=q.1/\H q.2.1=some (.tup (p.1.map kV))/\RelV p.2 q.2.2
theorem KT.val{H:Hp}{kvs:List (List Key×V)}{xs:List (List Key×QL×QI)}(r:KT H kvs xs)(k:List Key):wz (kZ kvs k) ((atKey xs k).map (·.2)):=by
 induction r with
 |nil=>exact True.intro
 |@cons p q ps qs h t ih=>
  obtain⟨h1,_,h2⟩:=h;by_cases e:p.1=k
  ·have e':q.1=k:=h1.symm.trans e;have b:atKey (q::qs) k=some q.2:=(by simp[atKey,Nz,e']);rw[lD e,b];exact h2
  ·have e':¬q.1=k:=λz=>e (h1.trans z);have b:atKey (q::qs) k=atKey qs k:=(by simp[atKey,Nz,e']);rw[lZ e,b];exact ih
theorem KT.repl{H:Hp}{kvs:List (List Key×V)}{xs:List (List Key×QL×QI)}(r:KT H kvs xs)(k:List Key){y:V}{u:QI}(ry:RelV y u):
  KT H (kvs.map λkv=>if kv.1=k then(kv.1,y)else kv) (xs.map (putAt k u)):=by
 induction r with
 |nil=>exact .nil
 |@cons p q ps qs h t ih=>
  rw[Ny,Ny];refine .cons ?_ ih;obtain⟨h1,h2,h3⟩:=h;unfold putAt;by_cases e:p.1=k
  ·rw[if_pos e,if_pos (h1.symm.trans e)];exact⟨h1,h2,ry⟩
  ·rw[if_neg e,if_neg (λz=>e (h1.trans z))];exact⟨h1,h2,h3⟩
theorem KT.put{H:Hp}{kvs:List (List Key×V)}{xs:List (List Key×QL×QI)}(r:KT H kvs xs)(k:List Key){b:QL}{y:V}{u:QI}(hb:H b=some (.tup (k.map kV)))(ry:RelV y u):
  KT H (putK kvs k y) (storedH xs k b u):=by
 have e:(kvs.any λkv=>decide (kv.1=k))=(atKey xs k).isSome:=by
  rw[wt,(r.val k).isSome_eq,NI]
 unfold putK storedH;rw[e];by_cases q:(atKey xs k).isSome=true
 ·rw[if_pos q,if_pos q];exact r.repl k ry
 ·rw[if_neg q,if_neg q];exact Paired.snoc r ⟨rfl,hb,ry⟩
theorem KT.keeps{H H':Hp}{kvs:List (List Key×V)}{xs:List (List Key×QL×QI)}(r:KT H kvs xs)(ht:∀b ys,H b=some (.tup ys)->H' b=some (.tup ys)):KT H' kvs xs:=
 Paired.mapP r λ_ _ z=>⟨z.1,ht _ _ z.2.1,z.2.2⟩
section
variable{P:QK}{w:QJ}{H:Hp}{h:QN}{a:QL}
theorem Fj{u:HO}(ok:oM P w H h)(e:Rd H a u):cM P w H h a u:=e.ok ok
theorem vW{kvs:List (Key×V)}(ok:oM P w H h)(e:Rd H a (.dK kvs)):kvs.length<=QO/\(a==sysModules)=false/\∃vs,KV kvs vs/\h.DictOf (cN P w) a vs:=
 show cM P w H h a (.dK kvs)from Fj ok e
theorem Ff{kvs:List (Key×V)}(ok:oM P w H h)(e:H a=some (.dK kvs)):kvs.length<=QO/\(a==sysModules)=false/\∃vs,KV kvs vs/\h.DictOf (cN P w) a vs:=vW ok (.inl e)
theorem pH{ks:List Key}(ok:oM P w H h)(e:H a=some (.tup (ks.map kV))):(tupleKind (cN P w)).is h ks a:=by
 obtain⟨_,its,r,o,h1,h2,n,h3⟩:=(show cM P w H h a (.tup (ks.map kV))from ok a _ e)
 exact⟨o,its.toArray,n,h1,h2,h3,by simpa using uf r⟩
theorem uQ{kvs:List (List Key×V)}(ok:oM P w H h)(e:Rd H a (.dT kvs)):kvs.length<=QO/\(a==sysModules)=false/\
  ∃xs,KT H kvs xs/\h.DictOfH (tupleKind (cN P w)) a xs:=by
 obtain⟨z,y,xs,r,o,es,ep,h1,h2,h3,h4,h5⟩:=(show cM P w H h a (.dT kvs)from Fj ok e)
 refine⟨z,y,xs,r,o,es,ep,h1,h2,h3,h4,λx hx=>?_,h5⟩;have all:∀{l:List (List Key×V)}{m:List (List Key×QL×QI)},KT H l m->∀x∈m,(tupleKind (cN P w)).is h x.1 x.2.1:=by
  intro l m q
  induction q with
  |nil=>intro x hx;exact nomatch hx
  |@cons p q ps qs hq t ih=>
   intro x hx;rcases List.mem_cons.mp hx with e|hx
   ·subst e;exact pH ok (by rw[<-hq.1];exact hq.2.1)
   ·exact ih x hx
 exact all r x hx
theorem HU{kvs:List (List Key×V)}(ok:oM P w H h)(e:H a=some (.dT kvs)):kvs.length<=QO/\(a==sysModules)=false/\
  ∃xs,KT H kvs xs/\h.DictOfH (tupleKind (cN P w)) a xs:=uQ ok (.inl e)
end
def Bd(H:Hp)(a:QL)(y:V)(r:Option V):Prop:=
 (∃kvs k,Rd H a (.dK kvs)/\y=kV k/\r=kZ kvs k)\/∃kvs k b,Rd H a (.dT kvs)/\y=.ref b/\H b=some (.tup (k.map kV))/\r=kZ kvs k
def Hq(H:Hp)(a:QL)(y v:V)(H':Hp):Prop:=
 (∃kvs k,H a=some (.dK kvs)/\y=kV k/\kvs.length<QO/\H'=upd H a (.dK (putK kvs k v))) \/
 ∃kvs k b,H a=some (.dT kvs)/\y=.ref b/\H b=some (.tup (k.map kV))/\kvs.length<QO/\H'=upd H a (.dT (putK kvs k v))
theorem Bd.t{H:Hp}{a b:QL}{kvs:List (List Key×V)}{k:List Key}(e:H a=some (.dT kvs))(eb:H b=some (.tup (k.map kV))):Bd H a (.ref b) (kZ kvs k):=.inr ⟨kvs,k,b,.inl e,rfl,eb,rfl⟩
theorem Hq.k{H:Hp}{a:QL}{kvs:List (Key×V)}{k:Key}{v:V}(e:H a=some (.dK kvs))(hl:kvs.length<QO):Hq H a (kV k) v (upd H a (.dK (putK kvs k v))):=.inl ⟨kvs,k,e,rfl,hl,rfl⟩
theorem Hq.t{H:Hp}{a b:QL}{kvs:List (List Key×V)}{k:List Key}{v:V}(e:H a=some (.dT kvs))(eb:H b=some (.tup (k.map kV)))(hl:kvs.length<QO):
  Hq H a (.ref b) v (upd H a (.dT (putK kvs k v))):=.inr ⟨kvs,k,b,e,rfl,eb,hl,rfl⟩
section
variable{X:Cx}{pins:List (QL×Obj)}{σ:St}{H:Hp}{s:QU}{a:QL}{y v:V}{u r:QI}{o:Option V}{A:QT}{E:QI->QU->Prop}
theorem Inv.big(I:Inv X pins σ H s):sysModules<s.heap.objs.size:=by
 have h:QQ<s.heap.objs.size:=(I.mod.glob.keeps I.bk).lt;exact NK (by decide) h
theorem A3{Q:QI->QU->Prop}(hu:A.units+1<Rl)(I:Inv X pins σ H s)(g:Bd H a y (some v))(ry:RelV y u)(h:∀w' s',Inv X pins σ H s'->RelV v w'->Q w' s'):
  QW (model X.prog X.w) A (getItem (.ref a) u) Q E s:=by
 rcases g with⟨kvs,k,e,ey,l⟩|⟨kvs,k,b,e,ey,eb,l⟩
 ·subst ey;obtain⟨z,hd,vs,rel,dd⟩:=vW I.hok e;obtain⟨w',hw,rw'⟩:=wz.some_of (v:=v) (o:=valueAt vs k) (by rw[l];exact rel.val k);exact wpAny_getItem_of (wO ry) dd.mapOf hw (h w' _ (I.tok _) rw')
 ·subst ey;cases(show u=Value.ref b from ry);obtain⟨z,hd,xs,rel,dd⟩:=uQ I.hok e;obtain⟨w',hw,rw'⟩:=wz.some_of (v:=v) (o:=(atKey xs k).map (·.2)) (by rw[l];exact rel.val k);obtain⟨p,hp,hp2⟩:=Option.map_eq_some_iff.mp hw;refine wpAny_getItem_heap (RH hu) (pH I.hok eb) dd hp ?_;rw[hp2];exact h w' _ (I.tok _) rw'
theorem Jx{Q:QI->QU->Prop}(hu:A.units+1<Rl)(I:Inv X pins σ H s)(g:Bd H a y o)(ry:RelV y u)(h:∀s',Inv X pins σ H s'->Q (.bool o.isSome) s'):
  QW (model X.prog X.w) A (Rb .In u (.ref a)) Q E s:=by
 rcases g with⟨kvs,k,e,ey,l⟩|⟨kvs,k,b,e,ey,eb,l⟩
 ·subst ey;obtain⟨z,hd,vs,rel,dd⟩:=vW I.hok e;refine wpAny_in_of (wO ry) hd dd.mapOf ?_;rw[<-(rel.val k).isSome_eq,<-l];exact h _ (I.tok _)
 ·subst ey;cases(show u=Value.ref b from ry);obtain⟨z,hd,xs,rel,dd⟩:=uQ I.hok e;refine wpAny_in_heap (RH hu) (pH I.hok eb) hd dd ?_;have q:=(rel.val k).isSome_eq;rw[NI]at q;rw[<-q,<-l];exact h _ (I.tok _)
theorem yZ{Q:QI->QU->Prop}(hu:A.units+1<Rl)(I:Inv X pins σ H s)(g:Bd H a y o)(ry:RelV y u)(h:∀s',Inv X pins σ H s'->Q (.bool (!o.isSome)) s'):
  QW (model X.prog X.w) A (Rb .NotIn u (.ref a)) Q E s:=by
 rcases g with⟨kvs,k,e,ey,l⟩|⟨kvs,k,b,e,ey,eb,l⟩
 ·subst ey;obtain⟨z,hd,vs,rel,dd⟩:=vW I.hok e;refine wpAny_notIn_of (wO ry) hd dd.mapOf ?_;rw[<-(rel.val k).isSome_eq,<-l];exact h _ (I.tok _)
 ·subst ey;cases(show u=Value.ref b from ry);obtain⟨z,hd,xs,rel,dd⟩:=uQ I.hok e;refine wpAny_notIn_heap (RH hu) (pH I.hok eb) hd dd ?_;have q:=(rel.val k).isSome_eq;rw[NI]at q;rw[<-q,<-l];exact h _ (I.tok _)
theorem qJ{h':QN}{t':Nat}{ob:HO}(I:Inv X pins σ H s)(mu:II (H a))(hs:Qj a s.heap h')(he:∃q,h'.get? a=some q)(new:cM X.prog X.w (upd H a ob) h' a ob):
  Inv X pins σ (upd H a ob) {s with heap:=h',toks:=t'}:=
 I.write (x:=a) (e:=a) mu (.inl rfl) (λb q hb z=>(hs.2 b hb).trans z) he new
theorem FV{P:QK}{w:QJ}{H':Hp}{h':QN}{kvs:List (Key×V)}{vs:List (Key×QI)}(z:kvs.length<=QO)(hd:(a==sysModules)=false)(rel:KV kvs vs)(dd:h'.DictOf (cN P w) a vs):
  cM P w H' h' a (.dK kvs):=⟨z,hd,vs,rel,dd⟩
theorem mD{H':Hp}{Q:Unit->QU->Prop}(hu:A.units+1<Rl)(I:Inv X pins σ H s)(g:Hq H a y v H')(ry:RelV y u)(rv:RelV v r)(h:∀s',Inv X pins σ H' s'->Q () s'):
  QW (model X.prog X.w) A (setItem (.ref a) u r) Q E s:=by
 rcases g with⟨kvs,k,e,ey,l,eH⟩|⟨kvs,k,b,e,ey,eb,l,eH⟩
 ·subst ey eH;obtain⟨z,hd,vs,rel,dd⟩:=Ff I.hok e;have hz:vs.length<=QO:=by rw[<-rel.length];exact z
  have hl:(putK kvs k v).length<=QO:=by have:=lI kvs k v;omega
  refine wpAny_setItem_pairs (hsz:=hz) (wO ry) dd λh' dd' hs=>h _ ?_;have he:∃q,h'.get? a=some q:=let ⟨q,_,_,hq,_⟩:=dd';⟨q,hq⟩
  exact qJ I (by rw[e];exact True.intro) hs he (FV hl hd (rel.put k rv) dd')
 ·subst ey eH;cases(show u=Value.ref b from ry);obtain⟨z,hd,xs,rel,dd⟩:=HU I.hok e;have hz:xs.length<=QO:=by rw[<-Paired.length rel];exact z
  have hl:(putK kvs k v).length<=QO:=by have:=lI kvs k v;omega
  refine wpAny_setItem_heap (hsz:=hz) (RH hu) (pH I.hok eb) dd λh' dd' hs=>h _ ?_;obtain⟨q,es,ep,hq,h2,h3,h4,_,h5⟩:=dd';refine qJ I (by rw[e];exact True.intro) hs ⟨q,hq⟩ ⟨hl,hd,_,(rel.put k eb rv).keeps λc ys ec=>?_,q,es,ep,hq,h2,h3,h4,h5⟩;rw[aQ (Jv ec e (λz=>nomatch z))];exact ec
end
def EL(i:QX):Prop:=∀ov iv,subscripted i false ov iv=operate [ov,iv] (getItem ov iv)
theorem EX{prog:QK}{w:QJ}{A:QT}{E:QI->QU->Prop}{s:QU}{env:Env}{value slice:QX}{pos:Pos}{T id:String}{Q:QI->QU->Prop}
  (hl:typeLookup (.type T) "__getitem__"=pure (some (.builtin id))) (hs:EL slice)
  (h:QW (model prog w) A (eval value env) (λo s₁=>QW (model prog w) A (eval slice env) (λi s₂=>s₂.TypeIs o T/\QW (model prog w) A (getItem o i) Q E s₂) E s₁) E s):
  QW (model prog w) A (eval (.Subscript value slice pos) env) Q E s:=by
 refine RE (Q0 h (λo s₁ h₁=>Q0 h₁ (λi s₂ h₂=>?_) λ_ _ x=>x) λ_ _ x=>x);obtain⟨hT,h₂⟩:=h₂;unfold subscriptTail;refine Q5 ?_;rw[getitemInPython_of_ne hT.not_modules];refine Q5 (wpAny_specialOf hT hl ?_);have fin:QW (model prog w) A (subscripted slice false o i) (λr s₃=>QW (model prog w) A (letTemporaryGo value o r >>= λ_=>pure r) Q E s₃) E s₂:=by
  rw[hs o i];exact wpAny_operating (Q0 h₂ (λr s₃ h₃=>Q5 (wpAny_letTemporaryGo (Q4 h₃))) λ_ _ x=>x)
 first
  |exact Q4 (Q5 fin)
  |exact Q5 (Q4 (Q5 fin))
  |exact Q5 fin
theorem xC{X:Cx}{pins:List (QL×Obj)}{σ:St}{H:Hp}{s:QU}{a:QL}{y:V}{o:Option V}(I:Inv X pins σ H s)(g:Bd H a y o):s.TypeIs (.ref a) "dict":=by
 rcases g with⟨kvs,k,e,_,_⟩|⟨kvs,k,b,e,_,_,_⟩
 ·obtain⟨_,_,vs,_,dd⟩:=vW I.hok e;exact dd.typeIs
 ·obtain⟨_,_,xs,_,dd⟩:=uQ I.hok e;exact dd.typeIs
def Jr(td ty:TE):TE:=λσ H Q=>td σ H λx H1=>ty σ H1 λy H2=>∃a v,x=.ref a/\Bd H2 a y (some v)/\Q v H2
section
variable{X:Cx}{o i e value:QX}{pos pos' tpos:Pos}{td ty tv:TE}
theorem DW(hu:X.A.units+1<Rl)(ho:PE X o td)(hi:PE X i ty)(hs:EL i):PE X (.Subscript o i pos) (Jr td ty):=by
 intro pins s σ H Q I h;refine EX PySem.F.slot_dict_getitem.lookup hs (eQ (ho pins s σ H _ I h) λu s1 ⟨x,H1,I1,rx,q1⟩=>eQ (hi pins s1 σ H1 _ I1 q1) λiv s2 ⟨y,H2,I2,ry,a,v,ex,g,q2⟩=>?_);subst ex;obtain rfl:u=Value.ref a:=rx;exact⟨xC I2 g,A3 hu I2 g ry λw' s3 I3 rw'=>⟨v,H2,I3,rw',q2⟩⟩
end
theorem B7{P:QK}{w:QJ}{H:Hp}(h:QN)(hb:sysModules<h.objs.size):cM P w H (h.push {cls:=.type "dict",data:=.dict #[]}) h.objs.size (.dT []):=
 ⟨Nc _,beq_eq_false_iff_ne.mpr (Ne.symm (MR hb)),[],.nil,_,#[],0,Ql _ rfl,⟨rfl,rfl,rfl⟩,rfl,rfl,NM⟩
def Hw:TE:=λ_ H Q=>∀p,H p=none->Q (.ref p) (upd H p (.dT []))
section
variable{X:Cx}{pos:Pos}
theorem Bv:PE X (.Dict [] [] pos) Hw:=λpins s σ H Q I h=>
 wpAny_Dict_empty ⟨.ref s.heap.objs.size,_,I.laid (a:=s.heap.objs.size) (o:=.dT []) (t':=s.toks) (λ_ _ q=>Qk _ q) (M3 _) (B7 s.heap I.big),rfl,h _ (I.hok.fresh (M3 _))⟩
end
def dL(cells:List (Str×QL)):List (Str×Ro)->List (Str×QL)->List (Str×QL)
 |[],acc=>acc
 |(n,k)::r,acc=>if k=.free then(match cells.lookup n with|some c=>dL cells r ((n,c)::acc)|none=>dL cells r acc)else dL cells r acc
theorem mr{cells:List (Str×QL)}:∀(names:List (Str×Ro))(acc:List (Str×QL)),(∀x c,acc.lookup x=some c->cells.lookup x=some c)->
  ∀x c,(dL cells names acc).lookup x=some c->cells.lookup x=some c
 |[],acc,h=>h
 |(n,k)::r,acc,h=>by
  unfold dL;by_cases hk:k=.free
  ·rw[if_pos hk];cases e:cells.lookup n with
   |none=>exact mr r acc h
   |some c0=>
    refine mr r _ λx c q=>?_;rw[NN]at q;cases hx:x==n with
    |true=>
     rw[hx]at q;have e1:x=n:=(by simpa using hx);cases q;rw[e1];exact e
    |false=>rw[hx]at q;exact h x c q
  ·rw[if_neg hk];exact mr r acc h
theorem j5{cells:List (Str×QL)}:∀(names:List (Str×Ro))(acc:List (Str×QL))(x:Str),(acc.lookup x).isSome=true->((dL cells names acc).lookup x).isSome=true
 |[],acc,x,h=>h
 |(n,k)::r,acc,x,h=>by
  unfold dL;by_cases hk:k=.free
  ·rw[if_pos hk];cases e:cells.lookup n with
   |none=>exact j5 r acc x h
   |some c0=>
    refine j5 r _ x ?_;rw[NN];cases hx:x==n with
    |true=>rfl
    |false=>exact h
  ·rw[if_neg hk];exact j5 r acc x h
theorem jy{cells:List (Str×QL)}:∀(names:List (Str×Ro))(acc:List (Str×QL))(x:Str),(x,NameKind.free)∈names->(∃c,cells.lookup x=some c)->((dL cells names acc).lookup x).isSome=true
 |[],acc,x,h,_=>absurd h (by simp)
 |(n,k)::r,acc,x,h,hc=>by
  unfold dL;rcases List.mem_cons.mp h with e|h
  ·cases e;rw[if_pos rfl];obtain⟨c,e⟩:=hc;rw[e];refine j5 r _ _ ?_;rw[NN];simp
  ·by_cases hk:k=.free
   ·rw[if_pos hk];cases e:cells.lookup n with
    |none=>exact jy r acc x h hc
    |some c0=>exact jy r _ x h hc
   ·rw[if_neg hk];exact jy r acc x h hc
theorem oo{scope:QV}{env:Env}(h:∀p∈scope.names,p.2=.free->∃c,env.cells.lookup p.1=some c):closureFor scope env=pure (dL env.cells scope.names []):=by
 have go:∀(names:List (Str×Ro))(acc:List (Str×QL)),(∀p∈names,p.2=.free->∃c,env.cells.lookup p.1=some c)->
   (forIn names acc λx cs=>(match x with|(name,kind)=>if(kind==NameKind.free)=true then do let a<-cellOf env name;pure (ForInStep.yield ((name,a)::cs))else pure (ForInStep.yield cs):Sem (ForInStep (List (Str×QL)))))=pure (dL env.cells names acc):=by
  intro names
  induction names with
  |nil=>intro acc _;rfl
  |cons p r ih=>
   intro acc hp;obtain⟨n,k⟩:=p;rw[NP];by_cases hk:k=.free
   ·obtain⟨c,e⟩:=hp (n,k) MV hk;subst hk;have e2:cellOf env n=pure c:=(by unfold cellOf;rw[e]);simp only[beq_self_eq_true,if_true,e2,pure_bind];rw[ih _ λq hq=>hp q (MX _ hq)]
    conv=>rhs;rw[dL]
    simp[e]
   ·have hb:(k==NameKind.free)=false:=(by simpa using hk);simp only[hb,NQ,if_false,pure_bind];rw[ih _ λq hq=>hp q (MX _ hq)]
    conv=>rhs;rw[dL,if_neg hk]
 have:=go scope.names [] h
 unfold closureFor;simp only[];rw[this];rfl
def cI(X:Cx)(scope:QV)(N:List Str)(cl:List (Str×QL))(C:QL)(fp:List QL)(s:QU)(H:Hp)(E:QI->QU->Prop):Cx where
 prog:=X.prog
 w:=X.w
 K:=X.K
 mg:=X.mg
 base:=X.base
 A:=X.A
 N:=N
 s₀:=s
 H₀:=H
 env:=compEnvC scope cl C X.env
 outer:=X.stack
 stack:=X.stack
 ex:=fp
 fn:=λ_=>false
 calm:=X.calm
 pn:=[]
 xe:=E
def vB(XN N:List Str)(names:List (Str×Ro))(ix:List (Option Nat)):Bool:=
 decide (ix.length=N.length)&&(N.zip ix).all λp=>match p.2 with
  |some i=>decide (XN[i]?=some p.1)&&decide (names.lookup p.1=some .free)
  |none=>true
def inBlock(ix:List (Option Nat))(σ:St):St:=ix.map λo=>match o with
 |some i=>(σ[i]?).getD none
 |none=>none
theorem vB.len{XN N:List Str}{names:List (Str×Ro)}{ix:List (Option Nat)}(h:vB XN N names ix=true):ix.length=N.length:=by
 unfold vB at h;rw[Nu]at h;exact of_decide_eq_true h.1
theorem vB.at_{XN N:List Str}{names:List (Str×Ro)}{ix:List (Option Nat)}(h:vB XN N names ix=true){j i:Nat}{x:Str}(h1:N[j]?=some x)(h2:ix[j]?=some (some i)):XN[i]?=some x/\names.lookup x=some .free:=by
 unfold vB at h;rw[Nu]at h;have hm:(x,some i)∈N.zip ix:=by
  have e:(N.zip ix)[j]?=some (x,some i):=by rw[List.getElem?_zip_eq_some];exact⟨h1,h2⟩
  exact Nn e
 have q:=List.all_eq_true.mp h.2 _ hm;simp only[Nu]at q;exact⟨of_decide_eq_true q.1,of_decide_eq_true q.2⟩
theorem lx{env:Env}:∀{names:List (Str×Ro)}{x:Str}{k:Ro},
  (names.map λ(n,k)=>if(k==NameKind.free&&env.scope.kind==.function&&env.kindOf n==some .cell)then(n,NameKind.cell)else(n,k)).lookup x=some k->
  names.lookup x=some k\/(names.lookup x=some .free/\k=.cell)
 |[],_,_,h=>by simp at h
 |(n,k0)::r,x,k,h=>by
  have ih:=@lx env r x k
  replace h:List.lookup x ((if(k0==NameKind.free&&env.scope.kind==.function&&env.kindOf n==some .cell)=true then(n,NameKind.cell)else(n,k0))::(r.map λ(n,k)=>if(k==NameKind.free&&env.scope.kind==.function&&env.kindOf n==some .cell)then(n,NameKind.cell)else(n,k)))=some k:=h
  by_cases hc:(k0==NameKind.free&&env.scope.kind==.function&&env.kindOf n==some .cell)=true
  ·rw[if_pos hc]at h;have hk0:k0=.free:=by
    simp only[Nu]at hc
    simpa using hc.1.1
   cases hx:x==n with
   |true=>
    simp only[NN,hx]at h;simp only[NN,hx];cases h;exact .inr ⟨by rw[hk0],rfl⟩
   |false=>
    simp only[NN,hx]at h ⊢;exact ih h
  ·rw[if_neg hc]at h;cases hx:x==n with
   |true=>
    simp only[NN,hx]at h ⊢;exact .inl h
   |false=>
    simp only[NN,hx]at h ⊢;exact ih h
def FY(X:Cx)(ifs:List QX)(t:TT):Prop:=
 ∀(pins:List (QL×Obj))(s:QU)(σ:St)(H:Hp)(Q:Bool->Hp->Prop),Inv X pins σ H s->t σ H Q->
  QW (model X.prog X.w) X.A (forIn ifs true λc r=>if r=true then do let ok<-isTrue c X.env (eval c X.env);pure (ForInStep.yield ok)else pure (ForInStep.yield r)) (TP X pins σ Q) X.xe s
def Il:TT:=λ_ H Q=>Q true H
theorem Ez{X:Cx}:FY X [] Il:=λ_ _ _ H _ I h=>wpAny_tests_nil ⟨H,I,h⟩
theorem D9{X:Cx}{c:QX}{t:TT}(h:PT X c t):FY X [c] t:=λpins s σ H Q I q=>wpAny_tests_one (h pins s σ H Q I q)
theorem lX{prog:QK}{w:QJ}{A:QT}{R:Result->QU->Prop}{s:QU}{elt target iter:QX}{ifs:List QX}{scope:QV}{pos:Pos}{it acc:QI}{env:Env}(I:Nat->QU->Prop)
  (turn:∀ n s,I n s->QW (model prog w) A (pyNext it) (fun r s₁=>match r with
   |none=>R (.ok .next) s₁
   |some v=>QW (model prog w) A (letOwnedTupleGo target it v) (λ_ s₁'=>QW (model prog w) A (assign target env v) (λ_ s₂=>
     QW (model prog w) A (forIn ifs true λc r=>if r=true then do let ok<-isTrue c env (eval c env);pure (ForInStep.yield ok)else pure (ForInStep.yield r)) (λok s₃=>
      if ok=true then QW (model prog w) A (eval elt env) (λx s₄=>
       QW (model prog w) A (call (.builtin "list.append") [acc,x]) (λ_ s₅=>∃m,m<n/\I m s₅) (notedBy (model prog w) A env λe s'=>R (.error e) s') s₄) (notedBy (model prog w) A env λe s'=>R (.error e) s') s₃
      else∃m,m<n/\I m s₃) (notedBy (model prog w) A env λe s'=>R (.error e) s') s₂) (notedBy (model prog w) A env λe s'=>R (.error e) s') s₁') (notedBy (model prog w) A env λe s'=>R (.error e) s') s₁) (notedBy (model prog w) A env λe s'=>R (.error e) s') s)
  (n:Nat) (h:I n s):
  Rg (model prog w) A (.compLoop (.ListComp elt [⟨target,iter,ifs,0⟩] scope pos) 0 it acc env) R s:=by
 refine codeAny_loop rfl I (λn s hI=>?_) n h;show QW _ A ((compTurn (.ListComp elt [⟨target,iter,ifs,0⟩] scope pos) 0 it acc env).onRaise (λx=>do noteFrame x env;theTreesLotGoes x)) _ _ s;refine wpAny_noted ?_;rw[compTurn_list];refine Q5 (RJ (Q5 (Q0 (turn n s hI) (λr s₁ h₁=>?_) λ_ _ h'=>h')));cases r with
 |none=>exact Q4 h₁
 |some v=>
  refine Q5 (Q0 h₁ (λ_ s₁' h₁'=>?_) λ_ _ h'=>h');refine Q5 (Q0 h₁' (λ_ s₂ h₂=>Q5 (Q0 h₂ (λok s₃ h₃=>?_) λ_ _ h'=>h')) λ_ _ h'=>h');cases ok with
  |false=>exact Q4 ⟨rfl,h₃⟩
  |true=>
   exact Q5 (Q5 (Q0 h₃ (λx s₄ h₄=>Q5 (Q0 h₄ (λ_ s₅ h₅=>Q4 (Q4 ⟨rfl,h₅⟩)) λ_ _ h'=>h')) λ_ _ h'=>h'))
def J2(wi:TI)(g:TG)(tc:TT)(te:TE)(ix:List (Option Nat)):TE:=λσ H Q=>
 wi σ H λJ H1=>∀D,H1 D=none->∃W:Nat->Nat->St->Hp->Prop,(∃m,W 0 m (inBlock ix σ) (upd H1 D (.lst [])))/\
  ∀i m σ' H',W i m σ' H'->(J.stop i H'/\Q (.ref D) H') \/
   (J.go i H'/\∀ x H2,J.yld i H' x H2->g x σ' H2 fun σ3 H3=>tc σ3 H3 fun b H4 =>
    if b=true then te σ3 H4 λv H5=>∃acc,H5 D=some (.lst acc)/\acc.length<QO/\∃m',m'<m/\W (i+1) m' σ3 (upd H5 D (.lst (acc++[v])))
    else∃m',m'<m/\W (i+1) m' σ3 H4)
section
variable{X:Cx}{elt tg iter:QX}{ifs:List QX}{scope:QV}{pos:Pos}{N:List Str}{ix:List (Option Nat)}{wi:TI}{g:TG}{tc:TT}{te:TE}
theorem rR{pins:List (QL×Obj)}{σ:St}{s2:QU}{H2:Hp}{it:QL}{fp:List QL}{tn:Nat->QN->Prop}{J:It}{Q:V->Hp->Prop}{E:QI->QU->Prop}{RR:QI->QL->Result->QU->Prop}
    (hc:X.calm=true) (hcell:∀y∈scope.names,y.2≠.cell) (hkind:scope.kind=.function)
    (hfr:∀y∈scope.names,y.2=.free->X.env.scope.names.lookup y.1=some .cell\/X.env.scope.names.lookup y.1=some .free)
    (hix:vB X.N N scope.names ix=true)
    (hb:∀cl C fp s H E,PG (cI X scope N cl C fp s H E) tg g/\FY (cI X scope N cl C fp s H E) ifs tc/\PE (cI X scope N cl C fp s H E) elt te)
    (I2:Inv X pins σ H2 s2) (T:Turn X.prog X.w X.K tg J fp it tn) (st2:tn 0 s2.heap) (f2:∀b∈fp,tx X pins H2 b)
    (q:∀ D,H2 D=none->∃ W:Nat->Nat->St->Hp->Prop,(∃ m,W 0 m (inBlock ix σ) (upd H2 D (.lst []))) /\
      ∀i m σ' H',W i m σ' H'->(J.stop i H'/\Q (.ref D) H') \/
        (J.go i H'/\∀ x H3,J.yld i H' x H3->g x σ' H3 fun σ3 H3=>tc σ3 H3 fun b H4 =>
          if b=true then te σ3 H4 λv H5=>∃acc,H5 D=some (.lst acc)/\acc.length<QO/\∃m',m'<m/\W (i+1) m' σ3 (upd H5 D (.lst (acc++[v])))
          else∃m',m'<m/\W (i+1) m' σ3 H4))
    (hRR:∀D C H' s' m,H2 D=none->s2.heap.objs.size<=C->H' C=none->s'.heap.Ns C m->(∀h',Qj C s'.heap h'->Inv X pins σ H' {s' with heap:=h'})->Q (.ref D) H'->RR (.ref D) C (.ok .next) s'):
    QW (model X.prog X.w) X.A (newList []) (λacc s₃=>QW (model X.prog X.w) X.A (newFunctionEnv scope X.env.globals (dL X.env.cells scope.names []) [] X.env.qual none .none (some X.env)) (λcenv s₄=>
      Rg (model X.prog X.w) X.A (.compStart (.ListComp elt [⟨tg,iter,ifs,0⟩] scope pos) 0 (.ref it) acc {cenv with scope:=relabel scope X.env}) (RR acc cenv.locals) s₄) E s₃) E s2:=by
  refine RC (wpAny_newFunctionEnv hcell (by intro y hy;simp at hy) (λh₁ hns₁ hsb₁=>?_) hkind);dsimp only at hns₁ hsb₁ ⊢;have I3:Inv X pins σ (upd H2 s2.heap.objs.size (.lst [])) {s2 with heap:=s2.heap.push {cls:=.type "list",dict:=none,data:=.seq ([]:List QI).toArray},toks:=s2.toks}:=I2.lnew (its:=[]) (t':=s2.toks) .nil (Nc _);generalize hs3:({s2 with heap:=s2.heap.push {cls:=.type "list",dict:=none,data:=.seq ([]:List QI).toArray},toks:=s2.toks}:QU)=s3 at I3;have eh3:s2.heap.push {cls:=.type "list",dict:=none,data:=.seq ([]:List QI).toArray}=s3.heap:=by rw[<-hs3]
  rw[eh3]at hns₁ hsb₁ ⊢;have hC3:s3.heap.objs.size=s2.heap.objs.size+1:=by rw[<-eh3,Qm]
  have hD:H2 s2.heap.objs.size=none:=I2.fresh;obtain⟨W,⟨m0,w0⟩,turn⟩:=q s2.heap.objs.size hD;generalize hH3:upd H2 s2.heap.objs.size (.lst [])=H3 at I3 w0;have old:∀b o,s3.heap.get? b=some o->h₁.get? b=some o:=λb o e=>hsb₁.extBut b o (MR (Qh e)) (Qk _ e);have fpH3:∀b∈fp,H3 b=none:=λb hb'=>by
    rw[<-hH3,aQ]
    ·exact(f2 b hb').1
    · obtain⟨o,e,_⟩:=T.obj _ _ st2 b hb'
      exact MR (Qh e)
  have fpLt:∀b∈fp,b<s3.heap.objs.size:=λb hb'=>by
    obtain⟨o,e,_⟩:=T.obj _ _ st2 b hb';rw[hC3];exact NR (Qh e)
  have hfree:∀p∈scope.names,p.2=.free->∃c,X.env.cells.lookup p.1=some c:=λp hp hk=>I2.ok.has p.1 (hfr p hp hk);have csub:∀x c,(dL X.env.cells scope.names []).lookup x=some c->X.env.cells.lookup x=some c:=mr scope.names [] (λx c e=>by simp at e);have names':∀x k,(relabel scope X.env).names.lookup x=some k->scope.names.lookup x=some k\/(scope.names.lookup x=some .free/\k=.cell):=λx k h=>lx h;have ok:(cI X scope N (dL X.env.cells scope.names []) s3.heap.objs.size fp s3 H3 (notedBy (model X.prog X.w) X.A (compEnvC scope (dL X.env.cells scope.names []) s3.heap.objs.size X.env) λe s'=>RR (.ref s2.heap.objs.size) s3.heap.objs.size (.error e) s')).Ok:=
    { mod:=I3.ok.mod
      kind:=hkind
      glob:=I3.ok.glob
      blt:=I3.ok.blt
      above:=M3 _
      inj:=λx y c h1 h2=>I3.ok.inj x y c (csub x c h1) (csub y c h2)
      has:=λx hx=>by
        have fr:scope.names.lookup x=some .free:=by
          rcases hx with hx|hx
          · rcases names' x .cell hx with h|⟨h,_⟩
            ·exact absurd rfl (hcell _ (PySem.mem_of_lookup h))
            ·exact h
          · rcases names' x .free hx with h|⟨_,h⟩
            ·exact h
            ·cases h
        have hm:=PySem.mem_of_lookup fr;exact Option.isSome_iff_exists.mp (jy scope.names [] x hm (hfree _ hm rfl))
      cab:=λx c h _=>by cases h
      hd:=I3.ok.hd
      frames:=I3.ok.frames
      stk:=.inl rfl
      exf:=λb hb'=>⟨MR (fpLt b hb'),λx c e=>(f2 b hb').2.2.2.2.1 x c (csub x c e)⟩
      bs:=λb o e=>I3.bs b o e
      bsz:=MS I3.ok.bsz I3.sz
      noex:=λb o e hb'=>by
        obtain⟨_,_,_,h4,_⟩:=f2 b hb';rcases h4 with h4|h4
        ·exact I3.ok.noex b o e h4
        ·exact absurd (MP (Qh (I3.ok.bs b o e).1) h4) (MQ _)
      exfs:=λb hb' hs=>by
        obtain⟨_,h2,h3,_⟩:=f2 b hb';rcases List.mem_cons.mp (I3.stkSub b hs)with e|e
        ·exact h2 e
        ·exact h3 e
      funs:=I3.stack
      frf:=λb hb'=>I3.stkFree b hb'}
  generalize hE:(notedBy (model X.prog X.w) X.A (compEnvC scope (dL X.env.cells scope.names []) s3.heap.objs.size X.env) λe s'=>RR (.ref s2.heap.objs.size) s3.heap.objs.size (.error e) s')=E' at ok;obtain⟨hg,htc,hel⟩:=hb (dL X.env.cells scope.names []) s3.heap.objs.size fp s3 H3 E';have Istart:∀tk,Inv (cI X scope N (dL X.env.cells scope.names []) s3.heap.objs.size fp s3 H3 E') [] (inBlock ix σ) H3 {s3 with heap:=h₁,toks:=tk}:=λtk=>by
    refine⟨ok,rfl,I3.bare,Un.kept old,⟨_,hns₁,λj x v e1 e2 _=>?_⟩,λx c e=>?_,I3.fresh,λx c e=>I3.freeC x c (csub x c e),λp hp=>absurd (show p∈([]:List (QL×Obj))from hp) (by simp),I3.hok.kept old,?_⟩
    ·
      unfold inBlock at e2;rw[Nm]at e2;cases q1:ix[j]? with
      |none=>rw[q1]at e2;simp at e2
      |some o=>
        rw[q1]at e2;cases o with
        |none=>simp at e2
        |some i=>
          obtain⟨n1,n2⟩:=vB.at_ hix e1 q1;have e2':(σ[i]?).getD none=some v:=Option.some.inj e2;have e3:σ[i]?=some (some v):=by
            cases q2:σ[i]? with
            |none=>rw[q2]at e2';simp at e2'
            |some o2=>rw[q2]at e2';simpa using e2'
          obtain⟨m,hn,hl⟩:=I3.loc;have hm:=PySem.mem_of_lookup n2;have hk:=hfr _ hm rfl;have hv:Hs X.env.scope x:=by
            rcases hk with hk|hk
            ·exact .inr (.inl hk)
            ·exact .inr (.inr hk)
          obtain⟨u,r,l⟩:=hl i x v n1 e3 hv;refine⟨u,r,.inr ?_⟩;rcases l with⟨kl,_⟩|⟨_,c,hcx,hcell'⟩
          · have kl':X.env.scope.names.lookup x=some .local:=kl
            rcases hk with hk|hk
            ·rw[kl']at hk;cases hk
            ·rw[kl']at hk;cases hk
          · obtain⟨c',hc'⟩:=Option.isSome_iff_exists.mp (jy (cells:=X.env.cells) scope.names [] x hm ⟨c,hcx⟩)
            have ec:c'=c:=Option.some.inj ((csub x c' hc').symm.trans hcx);subst ec;refine⟨?_,c',hc',?_⟩
            ·
              show(relabel scope X.env).names.lookup x=some .cell\/(relabel scope X.env).names.lookup x=some .free;have gen:∀names:List (Str×Ro),names.lookup x=some .free->((names.map λ(n,k)=>if(k==NameKind.free&&X.env.scope.kind==.function&&X.env.kindOf n==some .cell)then(n,NameKind.cell)else(n,k)).lookup x=some .cell\/(names.map λ(n,k)=>if(k==NameKind.free&&X.env.scope.kind==.function&&X.env.kindOf n==some .cell)then(n,NameKind.cell)else(n,k)).lookup x=some .free):=by
                intro names
                induction names with
                |nil=>intro h;simp at h
                |cons p r ih=>
                  obtain⟨n,k⟩:=p;intro h;show List.lookup x ((if(k==NameKind.free&&X.env.scope.kind==.function&&X.env.kindOf n==some .cell)=true then(n,NameKind.cell)else(n,k))::_)=_\/List.lookup x ((if(k==NameKind.free&&X.env.scope.kind==.function&&X.env.kindOf n==some .cell)=true then(n,NameKind.cell)else(n,k))::_)=_;cases hx:x==n with
                  |true=>
                    simp only[NN,hx]at h;by_cases hcc:(k==NameKind.free&&X.env.scope.kind==.function&&X.env.kindOf n==some .cell)=true
                    ·rw[if_pos hcc];left;simp only[NN,hx]
                    ·rw[if_neg hcc];right;simp only[NN,hx];exact h
                  |false=>
                    simp only[NN,hx]at h;by_cases hcc:(k==NameKind.free&&X.env.scope.kind==.function&&X.env.kindOf n==some .cell)=true
                    ·rw[if_pos hcc];simp only[NN,hx];exact ih h
                    ·rw[if_neg hcc];simp only[NN,hx];exact ih h
              exact gen scope.names n2
            ·exact hcell'.keeps old
    · obtain⟨v,z⟩:=I3.cell x c (csub x c e)
      exact⟨v,z.keeps old⟩
    · show(inBlock ix σ).length=N.length
      unfold inBlock;rw[Nq];exact vB.len hix
  have stat:∀{H':Hp},(∀b∈fp,H' b=none)->∀b∈fp,tx (cI X scope N (dL X.env.cells scope.names []) s3.heap.objs.size fp s3 H3 E') [] H' b:=λhn b hb'=>
    ⟨hn b hb',(ok.exf b hb').1,ok.exfs b hb',.inl hb',(ok.exf b hb').2,λp hp=>absurd (show p∈([]:List (QL×Obj))from hp) (by simp)⟩
  have tn1:tn 0 h₁:=T.keep _ _ _ st2 λb hb' o e=>old b o (by rw[<-eh3];exact Qk _ e);have loop:∀tk,Rg (model X.prog X.w) X.A (.compLoop (.ListComp elt [⟨tg,iter,ifs,0⟩] scope pos) 0 (.ref it) (.ref s2.heap.objs.size) (compEnvC scope (dL X.env.cells scope.names []) s3.heap.objs.size X.env))
      (RR (.ref s2.heap.objs.size) s3.heap.objs.size) {s3 with heap:=h₁,toks:=tk}:=by
    intro tk;refine lX (λn s'=>∃i σ' H',Inv (cI X scope N (dL X.env.cells scope.names []) s3.heap.objs.size fp s3 H3 E') [] σ' H' s'/\tn i s'.heap/\(∀b∈fp,H' b=none)/\W i n σ' H') ?_ m0 ⟨0,_,_,Istart tk,tn1,fpH3,w0⟩;rintro n s5 ⟨i,σ5,H5,I5,st5,fr5,w5⟩;rw[hE];rcases turn i n σ5 H5 w5 with⟨stop,qn⟩|⟨go,step⟩
    · refine eQ (T.done (cI X scope N (dL X.env.cells scope.names []) s3.heap.objs.size fp s3 H3 E') rfl rfl rfl hc i [] s5 σ5 H5 _ I5 (stat fr5) st5 stop) λr s6 ⟨hr,I6⟩=>?_
      subst hr;obtain⟨m6,hn6,_⟩:=I6.loc;refine hRR s2.heap.objs.size s3.heap.objs.size H5 s6 m6 hD (by rw[hC3];exact Nat.le_succ _) I6.free hn6 (λh' sb=>?_) qn;have ne:∀b o,s3.heap.get? b=some o->b≠s3.heap.objs.size:=λb o e=>MR (Qh e);refine I3.call' (s':={s6 with heap:=h'}) (H':=H5) (ch:=fp) I6.os ⟨λb o e n hb' hx=>?_,λb o e n hb' hx=>?_,λb o e n hx=>?_,λb o e hx=>?_,I6.base.tups,I6.base.frzs,I6.base.tbls⟩ ?_ I6.bare λb hb'=>?_
      ·exact(sb.2 b (ne b o e)).trans (I6.base.keep b o e n hb' hx)
      · obtain⟨sl,e1⟩:=I6.base.slot b o e n hb' hx
        exact⟨sl,(sb.2 b (ne b o e)).trans e1⟩
      ·exact I6.base.free b o e n hx
      · obtain⟨o',e1⟩:=I6.base.there b o e hx
        exact⟨o',(sb.2 b (ne b o e)).trans e1⟩
      · intro b ob e
        have hfreeC:H5 s3.heap.objs.size=none:=I6.free;refine(I6.hok b ob e).stay (λc v hcc q=>(sb.2 c ?_).trans q) (λ_ q=>q) λ_ _ q=>q;rintro rfl;rcases hcc with rfl|hcc
        ·rw[hfreeC]at e;cases e
        ·rw[hfreeC]at hcc;cases hcc
      · obtain⟨_,h2',_,h4',h5',h6'⟩:=f2 b hb'
        exact⟨h4',h2',h5',h6'⟩
    · refine eQ (T.item (cI X scope N (dL X.env.cells scope.names []) s3.heap.objs.size fp s3 H3 E') rfl rfl rfl hc i [] s5 σ5 H5 _ I5 (stat fr5) st5 go) λr s6 ⟨u,hr,h6⟩=>?_
      subst hr;refine eQ h6 λ_ s7 ⟨x,H7,I7,r7,y7,st7,fr7⟩=>?_;have I7':=I7.pinned (stat fr7) (T.obj _ _ st7);refine eQ (hg _ s7 σ5 H7 x u _ I7' r7 (step x H7 y7)) λ_ s8 ⟨σ8,H8,I8,q8⟩=>?_;refine eQ (htc _ s8 σ8 H8 _ I8 q8) λb s9 ⟨H9,I9,q9⟩=>?_;have again:∀{σ':St}{H':Hp}{s':QU}{m':Nat},Inv (cI X scope N (dL X.env.cells scope.names []) s3.heap.objs.size fp s3 H3 E') ([]++qY fp s7.heap) σ' H' s'->m'<n->W (i+1) m' σ' H'->
          ∃m,m<n/\∃i σ' H',Inv (cI X scope N (dL X.env.cells scope.names []) s3.heap.objs.size fp s3 H3 E') [] σ' H' s'/\tn i s'.heap/\(∀b∈fp,H' b=none)/\W i m σ' H':=λ{σ' H' s' m'} I' hm w'=>by
        refine⟨m',hm,i+1,σ',H',I'.unpinned,T.keep _ _ _ st7 λb hb' o e=>(I'.pin (b,o) (M4 _ (M4 _ (kO hb' e)))).1,λb hb'=>?_,w'⟩;obtain⟨o,e,d⟩:=T.obj _ _ st7 b hb';exact(I'.pin (b,o) (M4 _ (M4 _ (kO hb' e)))).2.1
      cases b with
      |false=>
        rw[if_neg M9]at q9 ⊢;obtain⟨m',hm,w9⟩:=q9;exact again I9 hm w9
      |true=>
        rw[if_pos rfl]at q9 ⊢;refine eQ (hel _ s9 σ8 H9 _ I9 q9) λy s10 ⟨v,H10,I10,r10,q10⟩=>?_;obtain⟨acc,ha,hz,m',hm,w10⟩:=q10;refine eQ (dI _ s10 σ8 H10 (.ref s2.heap.objs.size) [v] (.ref s2.heap.objs.size) [y] (λ_ H'=>H'=upd H10 s2.heap.objs.size (.lst (acc++[v]))) I10 rfl (.cons r10 .nil) ⟨_,acc,v,rfl,rfl,ha,hz,rfl⟩) λ_ s11 ⟨_,H11,I11,_,e11⟩=>?_;subst e11;exact again I11 hm w10
  subst hs3;exact codeAny_compStart_list (loop _) (T.self _ 0 _ _ _ tn1 (loop _))
theorem FR(hc:X.calm=true)(hcell:∀y∈scope.names,y.2≠.cell)(hkind:scope.kind=.function)(hnames:∀y∈scope.names,y.2=.local->scope.names.lookup y.1=some .local)
  (hfr:∀y∈scope.names,y.2=.free->X.env.scope.names.lookup y.1=some .cell\/X.env.scope.names.lookup y.1=some .free)
  (hix:vB X.N N scope.names ix=true) (hi:PI X tg iter wi)
  (hb:∀cl C fp s H E,PG (cI X scope N cl C fp s H E) tg g/\FY (cI X scope N cl C fp s H E) ifs tc/\PE (cI X scope N cl C fp s H E) elt te)
  (hs:∀x,Q8 iter X.env x=pure x:=by intro _;rfl):PE X (.ListComp elt [⟨tg,iter,ifs,0⟩] scope pos) (J2 wi g tc te ix):=by
 intro pins s σ H Q I h;rw[eval_ListComp];refine RK (use:=none) rfl hs (oo λp hp hk=>I.ok.has p.1 (hfr p hp hk)) hkind hnames (eQ (hi pins s σ H _ I h) λv s1 h1=>eQ h1 λitv s2 h2=>?_);obtain⟨it,fp,tn,J,H2,e,I2,T,st2,f2,q⟩:=h2;subst e;refine rR (Q:=Q) (RR:=λacc C=>compPost (model X.prog X.w) X.A X.xe none (EP X pins σ Q) acc C) hc hcell hkind hfr hix hb I2 T st2 f2 q ?_;intro D C H' s' m _ _ _ hn hI hq;exact⟨m,hn,λh' sb=>⟨.ref D,H',hI h' sb,rfl,hq⟩⟩
theorem FC{i:Nat}{y:Str}{py spos:Pos}(hN:X.N.Nodup)(hi':X.N[i]?=some y)(hx:Loc X.env.scope y)
  (hc:X.calm=true) (hcell:∀y∈scope.names,y.2≠.cell) (hkind:scope.kind=.function) (hnames:∀y∈scope.names,y.2=.local->scope.names.lookup y.1=some .local)
  (hfr:∀y∈scope.names,y.2=.free->X.env.scope.names.lookup y.1=some .cell\/X.env.scope.names.lookup y.1=some .free)
  (hix:vB X.N N scope.names ix=true) (hi:PI X tg iter wi)
  (hb:∀cl C fp s H E,PG (cI X scope N cl C fp s H E) tg g/\FY (cI X scope N cl C fp s H E) ifs tc/\PE (cI X scope N cl C fp s H E) elt te)
  (hsw:swapsWith (.ListComp elt [⟨tg,iter,ifs,0⟩] scope pos) (some (.Name y py)) spos.line X.env=pure true:=by rfl)
  (hs:∀x,Q8 iter X.env x=pure x:=by intro _;rfl)
  (hf:X.fn y=true\/X.env.scope.names.lookup y=some .local:=by first|exact .inl rfl|exact .inr rfl|assumption):
  PS X (.Assign [.Name y py] (.ListComp elt [⟨tg,iter,ifs,0⟩] scope pos) spos) (Cj (J2 wi g tc te ix) (uM i)):=by
 intro pins s σ H D0 I h;rw[exec_Assign_Name_used _ _ _ _ hsw];refine Q5 (RJ (Q5 ?_));show QW _ X.A (do let _<-comprehension (.ListComp elt [⟨tg,iter,ifs,0⟩] scope pos) scope X.env _ (newList []) false (eval iter X.env) (some (assign (.Name y py) X.env))) _ _ s;refine Q5 (eQ (RK (use:=some (assign (.Name y py) X.env)) (Q:=λ_ s'=>SP X pins D0 .next s') rfl hs (oo λp hp hk=>I.ok.has p.1 (hfr p hp hk)) hkind hnames
  (eQ (hi pins s σ H _ I h) λv s1 h1=>eQ h1 λitv s2 h2=>?_)) λ_ s' hq=>Q4 (Q4 hq))
 obtain⟨it,fp,tn,J,H2,e,I2,T,st2,f2,q⟩:=h2;subst e;refine rR (Q:=λv H'=>uM i v σ H' D0.nx) (RR:=λacc C=>compPost (model X.prog X.w) X.A X.xe (some (assign (.Name y py) X.env)) (λ_ s'=>SP X pins D0 .next s') acc C) hc hcell hkind hfr hix hb I2 T st2 f2 q ?_;intro D C H' s' m _ hC hfree hn hI hq;have I':Inv X pins σ H' s':=hI s'.heap (.refl ..);have nL:C≠X.env.locals:=M1 (MP I2.lt hC);have nC:∀x c,X.env.cells.lookup x=some c->c≠C:=λx c e z=>by
  obtain⟨v,q⟩:=I2.cell x c e;exact absurd (MP q.lt (by rw[z];exact hC)) (MQ _)
 have nP:∀p∈X.pn++pins,p.1≠C:=λp hp z=>absurd (MP (Qh (I2.pin p hp).1) (by rw[z];exact hC)) (MQ _);show QW _ X.A (assign (.Name y py) X.env (.ref D)) _ _ _;refine wpAny_assign_Name (uL I' hN hi' hx (v:=.ref D) rfl (λs'' I'' ch=>?_) hf);obtain⟨a,sb,ha⟩:=ch;have hCa:C≠a:=by
  rcases ha with ha|ha
  ·rw[ha];exact nL
  ·exact Ne.symm (nC y a ha)
 refine⟨m,hn.sameBut sb hCa,λh' sb'=>⟨_,H',?_,hq⟩⟩;exact I''.turned (t':=s''.toks) (λb o hb' e=>(sb'.2 b hb').trans e) hfree nL (.inr (MS I2.sz hC)) nC nP
end
end L2
namespace TG
open PySem PySem.Spec L2
inductive D where
 |non|bl (b:Bool)|int (i:Int)|str (x:Str)|tup (xs:List D)|lst (xs:List D)
 |dct (ks vs:List D)|obj (c:Str) (fs:List Str) (vs:List D)|exc (c:Str) (fs:List Str) (vs:List D)
def bN:Key->D
 |.inl i=>.int i
 |.inr x=>.str x
def clsAt(K:PD)(c:Str)(C:QL):Prop:=P5 K QQ c=some (some (.ref C))
def KJ(C a:QL)(dx:Option QL):(QL->Prop)->QN->Prop:=λ_ h=>∃o,h.get? a=some o/\o.cls=.ref C/\o.dict=dx
mutual
def cQ(K:PD)(H:Hp):D->V->Prop
 |.non,v=>v=.non
 |.bl b,v=>v=.bl b
 |.int i,v=>v=.int i
 |.str x,v=>v=.str x
 |.tup xs,v=>∃a vs,v=.ref a/\H a=some (.tup vs)/\bj K H xs vs
 |.lst xs,v=>∃a vs,v=.ref a/\n0 K H a vs/\bj K H xs vs
 |.dct ks ds,v=>∃a vs,v=.ref a/\bj K H ds vs/\((∃kvs:List (Key×V),H a=some (.dK kvs)/\ks=kvs.map (λp=>bN p.1)/\vs=kvs.map (·.2)) \/
   (∃kvs:List (List Key×V),H a=some (.dT kvs)/\ks=kvs.map (λp=>.tup (p.1.map bN))/\vs=kvs.map (·.2)) \/
   ∃(kvs:List (List Key×V))(o:Obj),H a=some (.frz o (.dT kvs))/\ks=.non::kvs.map (λp=>.tup (p.1.map bN))/\vs=kvs.map (·.2))
 |.obj c fs ds,v=>∃a vs,v=.ref a/\bj K H ds vs/\fs.length=vs.length/\∃C dx,clsAt K c C/\H a=some (.ins C dx (fs.zip vs))
 |.exc c fs ds,v=>∃a vs,v=.ref a/\bj K H ds vs/\fs.length=vs.length/\∃C dx,clsAt K c C/\H a=some (.ext (KJ C a dx))/\(fs=[]\/∃d,dx=some d/\H d=some (.xd (fs.zip vs)))
def bj(K:PD)(H:Hp):List D->List V->Prop
 |[],vs=>vs=[]
 |x::xs,vs=>∃v r,vs=v::r/\cQ K H x v/\bj K H xs r
end
theorem A8{K:PD}{H H':Hp}{a:QL}{xs:List V}(e:bE H H')(h:pY K H a xs):pY K H' a xs:=by
 rcases h with(h|⟨o,h⟩)|h
 ·exact .inl (.inl (e _ _ h))
 ·exact .inl (.inr ⟨o,e _ _ h⟩)
 ·exact .inr h
theorem cq{K:PD}{H H':Hp}{a:QL}{xs:List V}(e:bE H H')(h:H a=some (.tup xs)):pY K H' a xs:=pY.of (e _ _ h)
mutual
theorem cQ.mono{K:PD}{H H':Hp}(e:bE H H'):∀{d:D}{v:V},cQ K H d v->cQ K H' d v
 |.non,_,h=>by unfold cQ at h ⊢;exact h
 |.bl _,_,h=>by unfold cQ at h ⊢;exact h
 |.int _,_,h=>by unfold cQ at h ⊢;exact h
 |.str _,_,h=>by unfold cQ at h ⊢;exact h
 |.tup xs,_,h=>by
  unfold cQ at h ⊢;obtain⟨a,vs,e1,h1,h2⟩:=h;exact⟨a,vs,e1,e _ _ h1,bj.mono e h2⟩
 |.lst xs,_,h=>by
  unfold cQ at h ⊢;obtain⟨a,vs,e1,h1,h2⟩:=h;exact⟨a,vs,e1,e.seq h1,bj.mono e h2⟩
 |.dct _ ds,_,h=>by
  unfold cQ at h ⊢;obtain⟨a,vs,e1,h1,h2⟩:=h;refine⟨a,vs,e1,bj.mono e h1,?_⟩;rcases h2 with⟨kvs,h2,h3⟩|⟨kvs,h2,h3⟩|⟨kvs,o,h2,h3⟩
  ·exact .inl ⟨kvs,e _ _ h2,h3⟩
  ·exact .inr (.inl ⟨kvs,e _ _ h2,h3⟩)
  ·exact .inr (.inr ⟨kvs,o,e _ _ h2,h3⟩)
 |.obj _ _ ds,_,h=>by
  unfold cQ at h ⊢;obtain⟨a,vs,e1,h1,h2,C,dx,h3,h4⟩:=h;exact⟨a,vs,e1,bj.mono e h1,h2,C,dx,h3,e _ _ h4⟩
 |.exc _ _ ds,_,h=>by
  unfold cQ at h ⊢;obtain⟨a,vs,e1,h1,h2,C,dx,h3,h4,h5⟩:=h;exact⟨a,vs,e1,bj.mono e h1,h2,C,dx,h3,e _ _ h4,h5.imp id λ⟨d,q1,q2⟩=>⟨d,q1,e _ _ q2⟩⟩
theorem bj.mono{K:PD}{H H':Hp}(e:bE H H'):∀{ds:List D}{vs:List V},bj K H ds vs->bj K H' ds vs
 |[],_,h=>by unfold bj at h ⊢;exact h
 |x::xs,_,h=>by
  unfold bj at h ⊢;obtain⟨v,r,e1,h1,h2⟩:=h;exact⟨v,r,e1,cQ.mono e h1,bj.mono e h2⟩
end
section
variable{K:PD}{H:Hp}
theorem kN{v:V}:cQ K H .non v↔v=.non:=by unfold cQ;rfl
theorem lG{b:Bool}{v:V}:cQ K H (.bl b) v↔v=.bl b:=by unfold cQ;rfl
theorem fj{i:Int}{v:V}:cQ K H (.int i) v↔v=.int i:=by unfold cQ;rfl
theorem fh{x:Str}{v:V}:cQ K H (.str x) v↔v=.str x:=by unfold cQ;rfl
theorem cG{xs:List D}{v:V}:cQ K H (.tup xs) v↔∃a vs,v=.ref a/\H a=some (.tup vs)/\bj K H xs vs:=by unfold cQ;rfl
theorem cH{xs:List D}{v:V}:cQ K H (.lst xs) v↔∃a vs,v=.ref a/\n0 K H a vs/\bj K H xs vs:=by unfold cQ;rfl
theorem J9{ks ds : List D}{v : V}: cQ K H (.dct ks ds) v ↔ ∃ a vs, v = .ref a /\ bj K H ds vs /\ ((∃ kvs : List (Key × V), H a = some (.dK kvs) /\ ks = kvs.map (fun p => bN p.1) /\ vs = kvs.map (·.2)) \/
      (∃kvs:List (List Key×V),H a=some (.dT kvs)/\ks=kvs.map (λp=>.tup (p.1.map bN))/\vs=kvs.map (·.2)) \/
      ∃(kvs:List (List Key×V))(o:Obj),H a=some (.frz o (.dT kvs))/\ks=.non::kvs.map (λp=>.tup (p.1.map bN))/\vs=kvs.map (·.2)):=by unfold cQ;rfl
theorem JT{c:Str}{fs:List Str}{ds:List D}{v:V}:cQ K H (.obj c fs ds) v↔∃a vs,v=.ref a/\bj K H ds vs/\fs.length=vs.length/\∃C dx,clsAt K c C/\H a=some (.ins C dx (fs.zip vs)):=by unfold cQ;rfl
theorem cY{vs:List V}:bj K H [] vs↔vs=[]:=by unfold bj;rfl
theorem bM{x:D}{xs:List D}{vs:List V}:bj K H (x::xs) vs↔∃v r,vs=v::r/\cQ K H x v/\bj K H xs r:=by conv=>lhs;unfold bj
theorem bj.length:∀{ds:List D}{vs:List V},bj K H ds vs->ds.length=vs.length
 |[],_,h=>by rw[cY]at h;rw[h];rfl
 |_::xs,_,h=>by
  rw[bM]at h;obtain⟨v,r,e,_,h⟩:=h;rw[e,NE,NE,bj.length h]
theorem bj.get:∀{ds:List D}{vs:List V}{i:Nat}{d:D},bj K H ds vs->ds[i]?=some d->∃v,vs[i]?=some v/\cQ K H d v
 |[],_,_,_,_,e=>by simp at e
 |x::xs,_,0,d,h,e=>by
  rw[bM]at h;obtain⟨v,r,rfl,h1,_⟩:=h;simp at e;subst e;exact⟨v,rfl,h1⟩
 |x::xs,_,i+1,d,h,e=>by
  rw[bM]at h;obtain⟨v,r,rfl,_,h2⟩:=h;obtain⟨w,e1,e2⟩:=bj.get (i:=i) h2 (by simpa using e);exact⟨w,by simpa using e1,e2⟩
theorem bj.append:∀{ds es:List D}{vs ws:List V},bj K H ds vs->bj K H es ws->bj K H (ds++es) (vs++ws)
 |[],_,_,_,h,h'=>by rw[cY]at h;subst h;exact h'
 |x::xs,_,_,_,h,h'=>by
  rw[bM]at h;obtain⟨v,r,rfl,h1,h2⟩:=h;rw[NS,bM];exact⟨v,_,rfl,h1,bj.append h2 h'⟩
theorem bj.take:∀{ds:List D}{vs:List V}(n:Nat),bj K H ds vs->bj K H (ds.take n) (vs.take n)
 |_,_,0,_=>by rw[NT,NT,cY]
 |[],_,_+1,h=>by rw[cY]at h;subst h;rw[List.take_nil,List.take_nil,cY]
 |x::xs,_,n+1,h=>by
  rw[bM]at h;obtain⟨v,r,rfl,h1,h2⟩:=h;rw[NU,NU,bM];exact⟨v,_,rfl,h1,bj.take n h2⟩
theorem bj.drop:∀{ds:List D}{vs:List V}(n:Nat),bj K H ds vs->bj K H (ds.drop n) (vs.drop n)
 |_,_,0,h=>by rw[NV,NV];exact h
 |[],_,_+1,h=>by rw[cY]at h;subst h;rw[List.drop_nil,List.drop_nil,cY]
 |x::xs,_,n+1,h=>by
  rw[bM]at h;obtain⟨v,r,rfl,h1,h2⟩:=h;rw[NW,NW];exact bj.drop n h2
theorem bj.snoc{ds:List D}{vs:List V}{d:D}{v:V}(h:bj K H ds vs)(h':cQ K H d v):bj K H (ds++[d]) (vs++[v]):=
 h.append (bM.mpr ⟨v,[],rfl,h',cY.mpr rfl⟩)
theorem bj.one{d:D}{vs:List V}(h:bj K H [d] vs):∃v,vs=[v]/\cQ K H d v:=by
 rw[bM]at h;obtain⟨v,r,rfl,h1,h2⟩:=h;rw[cY]at h2;subst h2;exact⟨v,rfl,h1⟩
theorem bj.two{d e:D}{vs:List V}(h:bj K H [d,e] vs):∃v w,vs=[v,w]/\cQ K H d v/\cQ K H e w:=by
 rw[bM]at h;obtain⟨v,r,rfl,h1,h2⟩:=h;obtain⟨w,rfl,h3⟩:=h2.one;exact⟨v,w,rfl,h1,h3⟩
theorem uz:∀ns:List Int,bj K H (ns.map D.int) (ns.map V.int)
 |[]=>cY.mpr rfl
 |n::ns=>bM.mpr ⟨_,_,rfl,fj.mpr rfl,uz ns⟩
end
def hid(H:Hp)(O:List QL):Hp:=λb=>if b∈O then none else H b
theorem aK(H:Hp)(O:List QL):bE (hid H O) H:=λb o h=>by
 unfold hid at h;split at h
 ·cases h
 ·exact h
theorem cy{H H':Hp}{O:List QL}(e:bE H H'):bE (hid H O) (hid H' O):=λb o h=>by
 unfold hid at h ⊢;by_cases hb:b∈O
 ·rw[if_pos hb]at h;cases h
 ·rw[if_neg hb]at h ⊢;exact e b o h
theorem iY{H:Hp}{O O':List QL}(s:∀a∈O,a∈O'):bE (hid H O') (hid H O):=λb o h=>by
 unfold hid at h ⊢;by_cases hb:b∈O'
 ·rw[if_pos hb]at h;cases h
 ·rw[if_neg hb]at h;rw[if_neg λz=>hb (s b z)];exact h
theorem DY(H:Hp):hid H []=H:=by funext b;unfold hid;simp
theorem vD{H:Hp}{O:List QL}{p:QL}{o:HO}(h:H p=none):bE (hid H O) (hid (upd H p o) O):=λb u q=>by
 unfold hid at q ⊢;by_cases hb:b∈O
 ·rw[if_pos hb]at q;cases q
 ·rw[if_neg hb]at q ⊢;rw[aQ (bg q h)];exact q
theorem cf{H:Hp}{p:QL}(h:H p=none)(o:HO):bE H (upd H p o):=λb u q=>by rw[aQ (bg q h)];exact q
theorem jv{H:Hp}{O:List QL}{p:QL}(h:p∉O):hid H O p=H p:=by unfold hid;rw[if_neg h]
theorem jg{H:Hp}{O:List QL}{p:QL}{o:HO}(h:p∈O):bE (hid H O) (hid (upd H p o) O):=λb u q=>by
 unfold hid at q ⊢;by_cases hb:b∈O
 ·rw[if_pos hb]at q;cases q
 ·rw[if_neg hb]at q ⊢;rw[aQ (λz=>hb (by rw[z];exact h))];exact q
inductive S where
 |val (d:D)|own (d:D)|nest (d:D)
abbrev av:=List (Option S)
def sM:HO->Prop
 |.lst _=>True
 |.dK _=>True
 |.dT _=>True
 |_=>False
class bd where
 tab:Hp->Prop
 same:∀{H H':Hp},tab H->bE H H'->tab H'
 own:∀{H:Hp}{p:QL}{o o':HO},tab H->H p=some o->sM o->tab (upd H p o')
variable[bd]
def dW(H:Hp)(O:List QL):Prop:=bd.tab H/\∀a∈O,∃o,H a=some o/\sM o
theorem dW.not{H:Hp}{O:List QL}(h:dW H O){p:QL}(n:H p=none):p∉O:=λz=>by
 obtain⟨vs,e,_⟩:=h.2 p z;rw[n]at e;cases e
theorem dW.same{H H':Hp}{O:List QL}(h:dW H O)(e:bE H H'):dW H' O:=⟨bd.same h.1 e,λa ha=>let ⟨vs,q,m⟩:=h.2 a ha;⟨vs,e _ _ q,m⟩⟩
theorem dW.upd{H:Hp}{O:List QL}{p:QL}{o:HO}(h:dW H O)(hp:p∈O)(m:sM o):dW (L2.upd H p o) O:=⟨let ⟨_,q,r⟩:=h.2 p hp;bd.own h.1 q r,λa ha=>by
 by_cases z:a=p
 ·rw[z];exact⟨o,bb,m⟩
 ·obtain⟨u,q,r⟩:=h.2 a ha;exact⟨u,by rw[aQ z];exact q,r⟩⟩
theorem dW.cons{H:Hp}{O:List QL}{p:QL}{o:HO}(h:dW H O)(hp:H p=some o)(m:sM o):dW H (p::O):=⟨h.1,λa ha=>by
 rcases List.mem_cons.mp ha with z|z
 ·rw[z];exact⟨o,hp,m⟩
 ·exact h.2 a z⟩
def eO(K:PD)(H:Hp)(O:List QL)(a:QL)(d:D):Prop:=∃o vs,H a=some o/\match d with
 |.lst xs=>o=.lst vs/\bj K (hid H O) xs vs
 |.dct ks ds=>bj K (hid H O) ds vs/\((∃kvs:List (Key×V),o=.dK kvs/\ks=kvs.map (λp=>bN p.1)/\vs=kvs.map (·.2)) \/
   ∃kvs:List (List Key×V),o=.dT kvs/\ks=kvs.map (λp=>.tup (p.1.map bN))/\vs=kvs.map (·.2))
 |_=>False
theorem eO.mono{K:PD}{H H':Hp}{O O':List QL}{a:QL}{d:D}(h:eO K H O a d)(e:H a=H' a)(s:bE (hid H O) (hid H' O')):eO K H' O' a d:=by
 obtain⟨o,vs,h1,h2⟩:=h;refine⟨o,vs,by rw[<-e];exact h1,?_⟩;cases d with
 |lst xs=>exact⟨h2.1,h2.2.mono s⟩
 |dct ks ds=>exact⟨h2.1.mono s,h2.2⟩
 |_=>exact h2
theorem eO.some{K:PD}{H:Hp}{O:List QL}{a:QL}{d:D}(h:eO K H O a d):∃o,H a=some o:=let ⟨o,_,e,_⟩:=h;⟨o,e⟩
theorem eO.den{K:PD}{H:Hp}{O O':List QL}{a:QL}{d:D}(h:eO K H O a d)(s:bE (hid H O) (hid H O'))(ha:a∉O'):cQ K (hid H O') d (.ref a):=by
 obtain⟨o,vs,h1,h2⟩:=h;have h1':hid H O' a=Option.some o:=by rw[jv ha];exact h1
 cases d with
 |lst xs=>
  obtain⟨e,g⟩:=h2;subst e;exact cH.mpr ⟨a,vs,rfl,n0.of h1',g.mono s⟩
 |dct ks ds=>
  obtain⟨g,q⟩:=h2;refine J9.mpr ⟨a,vs,rfl,g.mono s,?_⟩;rcases q with⟨kvs,e,q⟩|⟨kvs,e,q⟩
  ·subst e;exact .inl ⟨kvs,h1',q⟩
  ·subst e;exact .inr (.inl ⟨kvs,h1',q⟩)
 |_=>exact h2.elim
structure d9(K:PD)(O:List QL)(H:Hp)(ρ:av)(σ:St):Prop where
 val:∀(i:Nat) d,ρ[i]?=some (some (.val d))->∃v,σ[i]?=some (some v)/\cQ K (hid H O) d v
 own:∀(i:Nat) d,ρ[i]?=some (some (.own d))->∃a,σ[i]?=some (some (.ref a))/\a∈O/\eO K H O a d
 one:∀(i j:Nat) xs ys a,ρ[i]?=some (some (.own xs))->ρ[j]?=some (some (.own ys))->σ[i]?=some (some (.ref a))->σ[j]?=some (some (.ref a))->i=j
 all:dW H O
theorem qM{H H':Hp}(e:bE H H'){a:QL}{o:HO}(h:H a=some o):H a=H' a:=by rw[h,e _ _ h]
theorem d9.same{K:PD}{O:List QL}{H H':Hp}{ρ:av}{σ:St}(h:d9 K O H ρ σ)(e:bE H H'):d9 K O H' ρ σ:=
  ⟨fun i d q=>let ⟨v,a,b⟩:=h.val i d q; ⟨v,a,b.mono (cy e)⟩,
   λi xs q=>let ⟨a,q1,q2,q3⟩:=h.own i xs q;⟨a,q1,q2,q3.mono (let ⟨_,z⟩:=q3.some;qM e z) (cy e)⟩,h.one,h.all.same e⟩
structure Ex where
 c:Str
 fs:List Str
 vs:List D
abbrev R(α:Type):=Except (Option Ex) α
abbrev un{α:Type}:R α:=.error none
def rO{α:Type}:Option α->R α
 |some a=>.ok a
 |none=>.error none
def IX(K:PD)(Hd:Hp)(x:Ex)(C:QL)(dx:Option QL):Prop:=clsAt K x.c C/\∃ws,bj K Hd x.vs ws/\x.fs.length=ws.length/\(x.fs=[]\/∃d,dx=some d/\Hd d=some (.xd (x.fs.zip ws)))
theorem IX.mono{K:PD}{H H':Hp}{x:Ex}{C:QL}{dx:Option QL}(h:IX K H x C dx)(e:bE H H'):IX K H' x C dx:=by
 obtain⟨h1,ws,h2,h3,h4⟩:=h;exact⟨h1,ws,h2.mono e,h3,h4.imp id λ⟨d,q1,q2⟩=>⟨d,q1,e _ _ q2⟩⟩
end TG
namespace TG
open PySem PySem.Spec L2
variable[bd]
open PyProof.Rows (AllBare)
theorem Gn{P:QK}{w:QJ}{H:Hp}{h:QN}{a:QL}{o:HO}(x:cM P w H h a o):∃u,h.get? a=some u:=by
 cases o with
 |lst xs=>obtain⟨_,_,_,_,e⟩:=x;exact⟨_,e⟩
 |tup xs=>obtain⟨_,_,_,o,e,_⟩:=x;exact⟨_,e⟩
 |dK kvs=>obtain⟨_,_,_,_,o,_,_,e,_⟩:=x;exact⟨_,e⟩
 |dT kvs=>obtain⟨_,_,_,_,o,_,_,e,_⟩:=x;exact⟨_,e⟩
 |set S n=>obtain⟨o,_,_,_,e,_⟩:=x;exact⟨_,e⟩
 |ins C dx fs=>obtain⟨_,_,_,e,_⟩:=x;exact⟨_,e⟩
 |own y=>exact x
 |xd fs=>obtain⟨_,⟨_,_,_,e,_⟩,_⟩:=x;exact⟨_,e⟩
 |rng lo hi=>obtain⟨_,_,_,e⟩:=x;exact⟨_,e⟩
 |frz ob u=>obtain⟨e,_⟩:=x;exact⟨_,e⟩
 |tbl ps=>exact⟨_,(show h.get? a=some _ from x)⟩
 |met f y=>exact⟨_,(show h.get? a=some _ from x)⟩
 |ext φ=>obtain⟨_,e,_⟩:=x;exact e
def rd(X:Cx)(H:Hp)(b:QL):Prop:=((∃o,X.s₀.heap.get? b=some o)/\b∉X.ex)\/H b≠none\/(∃o,(b,o)∈X.pn)\/∃x,X.env.cells.lookup x=some b
def MM(B:QN)(e:QL)(cls a0:QI)(h:QN):Prop:=h.TracedW B e cls a0\/∃oe vs,h.get? e=some oe/\oe.cls=cls/\oe.data=.fields vs/\vs[1]?=some .none/\vs[0]?=some a0
def Jw(X:Cx)(H:Hp)(s:QU)(e C:QL):Prop:=∃B a0,B.StaysIn s.heap/\B.get? e=none/\s.heap.FunFrames B X.stack/\MM B e (.ref C) a0 s.heap/\∀b o,s.heap.get? b=some o->rd X H b->b∉frs X.stack->B.get? b=some o
def MO(X:Cx)(H:Hp)(O:List QL)(s:QU)(u:QI)(x:Ex):Prop:=∃e C dx,u=.ref e/\IX X.K (hid H O) x C dx/\Jw X H s e C
def nZ(P:QK)(w:QJ):Bq:=λouter H s E u s'=>∃e C dx H' B a0,u=.ref e/\s'.os=s.os/\AllBare s'.gens/\Un (frs outer) [] H H' s.heap s'.heap/\oM P w H' s'.heap/\Heap.FlyingW B outer e (.ref C) a0 s'.heap/\
 (∀b o,s'.heap.get? b=some o->((∃o',s.heap.get? b=some o')\/H' b≠none)->b∉frs outer->B.get? b=some o)/\E (.ref C) dx H'
def LQ(K:PD)(H:Hp)(O:List QL)(x:Ex)(E:XK):Prop:=∀C dx H',bE H H'->IX K (hid H' O) x C dx->E (.ref C) dx H'
def HS(X:Cx)(σ:St)(O:List QL)(H:Hp)(x:Ex):Prop:=∀pins s u H',Inv X pins σ H' s->bE H H'->MO X H' O s u x->X.xe u s
theorem HS.mono{X:Cx}{σ:St}{O:List QL}{H H':Hp}{x:Ex}(h:HS X σ O H x)(s:bE H H'):HS X σ O H' x:=λpins st u H2 I s2 f=>h pins st u H2 I (s.trans s2) f
def zt(X:Cx)(O:List QL)(H:Hp)(x:Ex):XK:=λu dx H'=>∃C,u=.ref C/\bE H H'/\IX X.K (hid H' O) x C dx
def lH(CX:Bq)(X:Cx)(σ:St)(E:XK):Prop:=∀(pins:List (QL×Obj))(H:Hp)(s:QU)(e:QI)(s':QU),Inv X pins σ H s->CX X.stack H s E e s'->X.xe e s'
theorem zG{X:Cx}{σ:St}{O:List QL}{H:Hp}{x:Ex}(h:HS X σ O H x):lH (nZ X.prog X.w) X σ (zt X O H x):=by
 rintro pins H1 s u s' I ⟨e,C,dx,H',B,a0,rfl,os,bare,un,hok,⟨f1,f2,f3,f4⟩,kp,C',eC,sm,hd⟩;cases eC;have I':Inv X pins σ H' s':=I.call' os un hok bare (ch:=[]) λb z=>absurd z (by simp);refine h pins s' _ H' I' sm ⟨e,C,dx,rfl,hd,B,a0,f1,f2,f3,.inl f4,λb o eb hb nf=>kp b o eb ?_ nf⟩;rcases hb with⟨⟨o',hb⟩,nx⟩|hb|⟨o',hb⟩|⟨y,hb⟩
 ·exact .inl (I.base.there b o' hb nx)
 ·exact .inr hb
 ·exact .inl ⟨_,(I.pin _ (MY _ hb)).1⟩
 ·obtain⟨v,o,q,_⟩:=I.cell y b hb;exact .inl ⟨o,q⟩
theorem zP{X:Cx}{σ:St}:lH (nZ X.prog X.w) X σ E0:=λ_ _ _ _ _ _ ⟨_,_,_,_,_,_,_,_,_,_,_,_,_,z⟩=>z.elim
theorem xg{X:Cx}{O:List QL}{H:Hp}{x:Ex}:LQ X.K H O x (zt X O H x):=λC dx H' s e=>⟨C,rfl,s,e⟩
section
variable{X:Cx}{pins:List (QL×Obj)}{σ:St}{H:Hp}{s:QU}{h':QN}
theorem E6(I:Inv X pins σ H s)(k:∀b o,s.heap.get? b=some o->rd X H b->b∉frs X.stack->h'.get? b=some o):oM X.prog X.w H h':=λa ob ea=>
 (I.hok a ob ea).stay (λb u hb q=>by
  have hn:H b≠none:=by
   rcases hb with e|e
   ·rw[e,ea];intro z;cases z
   ·rw[e];intro z;cases z
  exact k b u q (.inr (.inl hn)) λhf=>hn (I.stkFree b hf)) (λ_ q=>q) λ_ _ q=>q
theorem uO(I:Inv X pins σ H s)(us:s.heap.UpToSlots h'){b:QL}{o:Obj}(hb:b∈frs X.stack)(e:s.heap.get? b=some o):∃sl,h'.get? b=some {o with slots:=sl}:=by
 obtain⟨_,o',e',nf⟩:=I.stack.mem hb;rw[e]at e';cases e';exact us b o e nf
theorem He(I:Inv X pins σ H s)(hx:X.ex=[])(hst:X.stack=X.env::X.outer)(hf:X.env.frame=some X.env.locals)(us:s.heap.UpToSlots h')(k:∀b o,s.heap.get? b=some o->rd X H b->b∉frs X.stack->h'.get? b=some o):
  Un (frs X.outer) [] X.H₀ H X.s₀.heap h':=by
 have U:=I.base;rw[hx]at U;have fr:frs X.stack=X.env.locals::frs X.outer:=by rw[hst];show List.filterMap _ (_::_)=_;rw[MU,hf];rfl
 have nl:∀b o,X.s₀.heap.get? b=some o->b≠X.env.locals:=λb o q z=>by
  have h1:=Qh q;have h2:=I.ok.above;rw[z]at h1;exact MQ _ (MP h1 h2)
 have nfr:∀b o,X.s₀.heap.get? b=some o->b∉frs X.outer->b∉frs X.stack:=λb o q nb z=>by
  rw[fr]at z;rcases List.mem_cons.mp z with z|z
  ·exact nl b o q z
  ·exact nb z
 refine⟨λb o q n nb _=>k b o (U.keep b o q n nb (by simp)) (.inl ⟨⟨o,q⟩,by rw[hx];simp⟩) (nfr b o q nb),λb o q n hb _=>?_,λb o q n _=>U.free b o q n (by simp),λb o q _=>?_,U.tups,U.frzs,U.tbls⟩
 ·obtain⟨sl,e⟩:=U.slot b o q n hb (by simp);obtain⟨sl',e'⟩:=uO I us (by rw[fr];exact MX _ hb) e;exact⟨sl',e'⟩
 ·obtain⟨o1,e1⟩:=U.there b o q (by simp);by_cases hb:b∈frs X.stack
  ·obtain⟨sl,e⟩:=uO I us hb e1;exact⟨_,e⟩
  ·exact⟨o1,k b o1 e1 (.inl ⟨⟨o,q⟩,by rw[hx];simp⟩) hb⟩
end
theorem Cz{P:QK}{w:QJ}{K:PD}{mg:Str->Option QI}{base:QN}{N:List Str}{qual:Str}{scope:QV}{f:QL}{cd:QI}{A:QT}{outer:List Env}{s:QU}{H:Hp}{E:XK}{σ:St}{O O':List QL}{H':Hp}{x:Ex}
  (hx:LQ K H O x E) (sm:bE H H') (hs:∀a∈O,a∈O'):HS (kG (nZ P w) P w K mg base N qual scope f cd A outer s H E) σ O' H' x:=by
 rintro pins s1 u H1 I s2 ⟨e,C,dx,rfl,hd,B,a0,b1,b2,b3,b4,b5⟩;have fin:∀h',Heap.FlyingW B outer e (.ref C) a0 h'->s1.heap.UpToSlots h'->nZ P w outer H s E (.ref e) {s1 with heap:=h'}:=λh' fl us=>by
  have k:∀b o,s1.heap.get? b=some o->rd (kG (nZ P w) P w K mg base N qual scope f cd A outer s H E) H1 b->b∉frs (kG (nZ P w) P w K mg base N qual scope f cd A outer s H E).stack->h'.get? b=some o:=λb o q kb nf=>fl.1 b o (b5 b o q kb nf);have un:=He I rfl rfl rfl us k;have hok:=E6 I k;refine⟨e,C,dx,H1,B,a0,rfl,I.os,I.bare,un,hok,fl,λb o q hb nf=>?_,hx C dx H1 (sm.trans s2) (hd.mono (iY hs))⟩;have nf2:b∉frs (kG (nZ P w) P w K mg base N qual scope f cd A outer s H E).stack:=λz=>by
   rcases List.mem_cons.mp (show b∈s.heap.objs.size::frs outer from z)with z|z
   ·rcases hb with hb|hb
    ·obtain⟨o',hb⟩:=hb
     have:=Qh hb
     rw[z]at this;exact MQ _ this
    ·rw[z]at hb;exact hb I.free
   ·exact nf z
  have kb:rd (kG (nZ P w) P w K mg base N qual scope f cd A outer s H E) H1 b:=hb.elim (λz=>.inl ⟨z,λy=>nomatch y⟩) λz=>.inr (.inl z);obtain⟨o1,e1⟩:∃o1,s1.heap.get? b=some o1:=by
   rcases hb with⟨o',hb⟩|hb
   ·exact I.base.there b o' hb (λz=>nomatch z)
   ·cases q0:H1 b with
    |none=>exact absurd q0 hb
    |some ob=>exact Gn (I.hok b ob q0)
  have:=k b o1 e1 kb nf2
  rw[q]at this;cases this;exact b5 b _ e1 kb nf2
 show QW _ _ (leaving (Qt qual scope s.heap.objs.size f cd) (.ref e)) _ _ s1;rcases b4 with b4|⟨oe,vs,c1,c2,c3,c4,c5⟩
 ·exact wpAny_leaves_onW I.ok.frames rfl ⟨b1,b2,b3,b4⟩ fin
 ·refine wpAny_leaving_firstW I.ok.frames b3 rfl c1 b1 b2 c3 c4 c5 λh' hL=>?_;obtain⟨k1,⟨_,_,k2⟩,k3,k4⟩:=hL;exact fin h' ⟨k1,b2,k2,c2 ▸ k3⟩ k4
end TG
namespace TG
open PySem PySem.Spec L2
variable[bd]
def i7(X:Cx)(σ:St)(O:List QL)(H:Hp){α:Type}(r:R α)(Q:α->Prop):Prop:=match r with
 |.ok a=>Q a
 |.error (some x)=>HS X σ O H x
 |.error none=>False
section
variable{X:Cx}{σ:St}{O:List QL}{H H':Hp}{α β:Type}
theorem i7.bind{r:R α}{G:α->R β}{Q:β->Prop}(h:i7 X σ O H (r.bind G) Q):i7 X σ O H r λa=>i7 X σ O H (G a) Q:=by
 match r,h with
 |.ok a,h=>exact h
 |.error (some x),h=>exact h
 |.error none,h=>exact h
theorem i7.imp{r:R α}{Q Q':α->Prop}(h:i7 X σ O H r Q)(f:∀a,Q a->Q' a):i7 X σ O H r Q':=by
 match r,h with
 |.ok a,h=>exact f a h
 |.error (some x),h=>exact h
 |.error none,h=>exact h
theorem i7.mono{r:R α}{Q:α->Prop}(h:i7 X σ O H r Q)(s:bE H H'):i7 X σ O H' r Q:=by
 match r,h with
 |.ok a,h=>exact h
 |.error (some x),h=>exact HS.mono h s
 |.error none,h=>exact h
theorem i7.rO{o:Option α}{Q:α->Prop}(h:i7 X σ O H (rO o) Q):∃a,o=some a/\Q a:=by
 match o,h with
 |some a,h=>exact⟨a,rfl,h⟩
 |none,h=>exact h.elim
end
abbrev FX:=av->R D
def tF(X:Cx)(F:FX):TE:=λσ H Q=>∃O ρ,d9 X.K O H ρ σ/\i7 X σ O H (F ρ) λd=>∀v H',bE H H'->cQ X.K (hid H' O) d v->Q v H'
def Kf(X:Cx)(F:av->R Bool):TT:=λσ H Q=>∃O ρ,d9 X.K O H ρ σ/\i7 X σ O H (F ρ) λb=>∀H',bE H H'->Q b H'
def L3(X:Cx)(F:av->R (List D)):TA:=λσ H Q=>∃O ρ,d9 X.K O H ρ σ/\i7 X σ O H (F ρ) λds=>∀vs H',bE H H'->bj X.K (hid H' O) ds vs->Q vs H'
def FE(X:Cx)(e:QX)(F:FX):Prop:=PE X e (tF X F)
def FT(X:Cx)(e:QX)(F:av->R Bool):Prop:=PT X e (Kf X F)
def FW(X:Cx)(e:QX)(F:av->R Bool):Prop:=PW X e (Kf X F)
def FA(X:Cx)(es:List QX)(F:av->R (List D)):Prop:=PA X es (L3 X F)
theorem PE.weak{X:Cx}{e:QX}{t t':TE}(h:PE X e t)(w:∀σ H Q,t' σ H Q->t σ H Q):PE X e t':=λpins s σ H Q I q=>h pins s σ H Q I (w σ H Q q)
theorem PT.weak{X:Cx}{e:QX}{t t':TT}(h:PT X e t)(w:∀σ H Q,t' σ H Q->t σ H Q):PT X e t':=λpins s σ H Q I q=>h pins s σ H Q I (w σ H Q q)
theorem PW.weak{X:Cx}{e:QX}{t t':TT}(h:PW X e t)(w:∀σ H Q,t' σ H Q->t σ H Q):PW X e t':=λwhole pins s σ H Q I q=>h whole pins s σ H Q I (w σ H Q q)
theorem PA.weak{X:Cx}{es:List QX}{t t':TA}(h:PA X es t)(w:∀σ H Q,t' σ H Q->t σ H Q):PA X es t':=λpos pins s σ H Q I q=>h pos pins s σ H Q I (w σ H Q q)
theorem PS.weak{X:Cx}{st:QZ}{t t':TS}(h:PS X st t)(w:∀D σ H,t' D σ H->t D σ H):PS X st t':=λpins s σ H Q I q=>h pins s σ H Q I (w Q σ H q)
theorem AY.weak{X:Cx}{st:List QZ}{t t':TS}(h:AY X st t)(w:∀D σ H,t' D σ H->t D σ H):AY X st t':=λpins s σ H Q I q=>h pins s σ H Q I (w Q σ H q)
def rJ(ρ:av)(i:Nat):R D:=match ρ[i]? with
 |some (some (.val d))=>.ok d
 |_=>un
theorem Eu{ρ:av}{i:Nat}{d:D}(h:rJ ρ i=.ok d):ρ[i]?=some (some (.val d)):=by
 unfold rJ at h;split at h
 ·rename_i e;cases h;exact e
 ·cases h
def af(i:Nat):FX:=λρ=>rJ ρ i
def fC(d:D):FX:=λ_=>.ok d
section
variable{X:Cx}
theorem uB{σ:St}{O:List QL}{H:Hp}{ρ:av}{i:Nat}{Q:D->Prop}(h:i7 X σ O H (rJ ρ i) Q):∃d,ρ[i]?=some (some (.val d))/\Q d:=by
 cases e:rJ ρ i with
 |ok d=>rw[e]at h;exact⟨d,Eu e,h⟩
 |error z=>
  rw[e]at h;cases z with
  |none=>exact h.elim
  |some x=>
   exfalso;unfold rJ at e;split at e
   ·cases e
   ·have:=Except.error.inj e;cases this
theorem Le{i:Nat}{x:Str}{pos:Pos}(h:PE X (.Name x pos) (xn i)):FE X (.Name x pos) (af i):=
 PE.weak h λσ H Q ⟨O,ρ,E,hF⟩=>by
  obtain⟨d,e,q⟩:=uB hF;obtain⟨v,e,dv⟩:=E.val i d e;exact⟨v,e,q v H (bE.refl H) dv⟩
theorem si{e:QX}{d:D}{v:V}(h:PE X e (tC v))(hd:∀K H,cQ K H d v):FE X e (fC d):=
 PE.weak h λσ H Q ⟨O,ρ,E,q⟩=>q v H (bE.refl H) (hd _ _)
theorem K1{i j pos}:FE X (.Constant (.int i) j pos) (fC (.int i)):=si Dj λ_ _=>fj.mpr rfl
theorem Mo{b j pos}:FE X (.Constant (.bool b) j pos) (fC (.bl b)):=si Ir λ_ _=>lG.mpr rfl
theorem LW{x j pos}:FE X (.Constant (.str x) j pos) (fC (.str x)):=si Gq λ_ _=>fh.mpr rfl
def noStar:QX->Bool
 |.Starred _ _=>false
 |_=>true
theorem fg{e:QX}{es:List QX}{env:Env}(h:noStar e=true):QY (e::es) env=(false,eval e env)::QY es env:=by
 cases e<;>first|rfl|cases h
theorem iZ{pos:Pos}{env:Env}:∀{es:List QX},es.all noStar=true->(backTo pos (QY es env)).any (·.1)=false
 |[],_=>rfl
 |e::es,h=>by
  rw[NX,Nu]at h;rw[fg h.1];exact iZ h.2
def aw:av->R (List D):=λ_=>.ok []
def ah(f:FX)(g:av->R (List D)):av->R (List D):=λρ=>(f ρ).bind λx=>(g ρ).bind λxs=>.ok (x::xs)
theorem Gh:FA X [] aw:=PA.weak pI λσ H Q ⟨O,ρ,E,q⟩=>q [] H (bE.refl H) (cY.mpr rfl)
theorem bind_some{α β:Type}{o:Option α}{f:α->Option β}{b:β}(h:o.bind f=some b):∃a,o=some a/\f a=some b:=by
 cases o with
 |none=>cases h
 |some a=>exact⟨a,rfl,h⟩
theorem qG{ε α β:Type}{o:Except ε α}{f:α->Except ε β}{b:β}(h:o.bind f=.ok b):∃a,o=.ok a/\f a=.ok b:=by
 cases o with
 |error _=>cases h
 |ok a=>exact⟨a,rfl,h⟩
theorem Em{e:QX}{es:List QX}{f:FX}{g:av->R (List D)}(he:FE X e f)(hs:FA X es g)(hns:noStar e=true:=by rfl):FA X (e::es) (ah f g):=
 PA.weak (mC he hs (fg hns)) λσ H Q ⟨O,ρ,E,h⟩=>
  ⟨O,ρ,E,(i7.bind h).imp λx h v H1 s1 d1=>⟨O,ρ,E.same s1,((i7.bind h).mono s1).imp λxs q vs H2 s2 d2=>q (v::vs) H2 (s1.trans s2) (bM.mpr ⟨v,vs,rfl,d1.mono (cy s2),d2⟩)⟩⟩
def small(n:Nat):Bool:=decide (n<=100000)
theorem eL{n:Nat}(h:small n=true):n<=QO:=MS (of_decide_eq_true h) (by decide)
theorem dR{n:Nat}(h:n<=100000):small n=true:=decide_eq_true h
def xA(xs:List D):Option D:=if small xs.length then some (.tup xs)else none
def kQ(xs:List D):Option D:=if small xs.length then some (.lst xs)else none
def cF(g:av->R (List D)):FX:=λρ=>(g ρ).bind λxs=>rO (xA xs)
def gh(g:av->R (List D)):FX:=λρ=>(g ρ).bind λxs=>rO (kQ xs)
theorem bX{α:Type}{c:Bool}{a b:α}(h:(if c then some a else none)=some b):c=true/\a=b:=by
 cases c with
 |true=>exact⟨rfl,Option.some.inj h⟩
 |false=>cases h
theorem fF{K:PD}{H:Hp}{O:List QL}{p:QL}{ds:List D}{vs:List V}(hO:dW H O)(hp:H p=none)(d:bj K (hid H O) ds vs):cQ K (hid (upd H p (.tup vs)) O) (.tup ds) (.ref p):=
 cG.mpr ⟨p,vs,rfl,by rw[jv (hO.not hp),bb],d.mono (vD hp)⟩
theorem dq{K:PD}{H:Hp}{O:List QL}{p:QL}{ds:List D}{vs:List V}(hO:dW H O)(hp:H p=none)(d:bj K (hid H O) ds vs):cQ K (hid (upd H p (.lst vs)) O) (.lst ds) (.ref p):=
 cH.mpr ⟨p,vs,rfl,n0.of (by rw[jv (hO.not hp),bb]),d.mono (vD hp)⟩
theorem LC{es:List QX}{g:av->R (List D)}{k pos}(h:FA X es g):FE X (.Tuple es k pos) (cF g):=
 PE.weak (Hh h) λσ H Q ⟨O,ρ,E,hF⟩=>⟨O,ρ,E,(i7.bind hF).imp λxs hF vs H1 s1 d1=>by
  obtain⟨d,e,q⟩:=i7.rO hF;obtain⟨hz,e⟩:=bX e;subst e;refine⟨by rw[<-d1.length];exact eL hz,λp hp=>?_⟩;exact q _ _ (s1.trans (cf hp _)) (fF (E.all.same s1) hp d1)⟩
theorem KW{es:List QX}{g:av->R (List D)}{pos}(h:FA X es g):FE X (.List es pos) (gh g):=
 PE.weak (sG h) λσ H Q ⟨O,ρ,E,hF⟩=>⟨O,ρ,E,(i7.bind hF).imp λxs hF vs H1 s1 d1=>by
  obtain⟨d,e,q⟩:=i7.rO hF;obtain⟨hz,e⟩:=bX e;subst e;refine⟨by rw[<-d1.length];exact eL hz,λp hp=>?_⟩;exact q _ _ (s1.trans (cf hp _)) (dq (E.all.same s1) hp d1)⟩
def DH(K:PD)(r:V->Hp->VK->Prop)(g:D->Option D):Prop:=
 ∀(a d:D)(x:V)(O:List QL)(H:Hp)(Q:VK),dW H O->g a=some d->cQ K (hid H O) a x->(∀v H',bE H H'->cQ K (hid H' O) d v->Q v H')->r x H Q
def f1(g:D->Option D)(f:FX):FX:=λρ=>(f ρ).bind λa=>rO (g a)
def eB(K:PD)(r:R2)(g:D->D->Option D):Prop:=
 ∀(a b d:D)(x y:V)(O:List QL)(H:Hp)(Q:VK),dW H O->g a b=some d->cQ K (hid H O) a x->cQ K (hid H O) b y->(∀v H',bE H H'->cQ K (hid H' O) d v->Q v H')->r x y H Q
def f2(g:D->D->Option D)(f1 f2:FX):FX:=λρ=>(f1 ρ).bind λa=>(f2 ρ).bind λb=>rO (g a b)
theorem vF{r:R2}{g:D->D->Option D}{fa fb:FX}(s:eB X.K r g):∀σ H Q,tF X (f2 g fa fb) σ H Q->IV r (tF X fa) (tF X fb) σ H Q:=λσ H Q ⟨O,ρ,E,hF⟩=>
 ⟨O,ρ,E,(i7.bind hF).imp fun a hF x H1 s1 d1=>⟨O,ρ,E.same s1,((i7.bind hF).mono s1).imp fun b hF y H2 s2 d2=>by
  obtain⟨d,e,q⟩:=i7.rO hF;exact s a b d x y O H2 Q (E.all.same (s1.trans s2)) e (d1.mono (cy s2)) d2 λv H3 s3 d3=>q v H3 ((s1.trans s2).trans s3) d3⟩⟩
theorem Lp{a b:QX}{op:Operator}{r:R2}{g:D->D->Option D}{fa fb:FX}{pos:Pos}(ho:kY X (Ra op) r)(s:eB X.K r g)(ha:FE X a fa)(hb:FE X b fb):FE X (.BinOp a op b pos) (f2 g fa fb):=
 PE.weak (Jh ho ha hb) (vF s)
theorem LK{a b:QX}{op:CmpOp}{r:R2}{g:D->D->Option D}{fa fb:FX}{pos:Pos}(ho:kY X (Rb op) r)(s:eB X.K r g)(ha:FE X a fa)(hb:FE X b fb)(hm:Rc op b=false):FE X (.Compare a [op] [b] pos) (f2 g fa fb):=
 PE.weak (E8 ho ha hb hm) (vF s)
def LN:D->Option Bool
 |.bl b=>some b
 |_=>none
def fB(f:FX):av->R Bool:=λρ=>(f ρ).bind λd=>rO (LN d)
theorem Ce{t:TE}{f:FX}(h:∀σ H Q,tF X f σ H Q->t σ H Q):∀σ H Q,Kf X (fB f) σ H Q->FJ t σ H Q:=λσ H Q ⟨O,ρ,E,hF⟩=>
 h σ H _ ⟨O,ρ,E,(i7.bind hF).imp λd hF v H1 s1 d1=>by
  obtain⟨b,e,q⟩:=i7.rO hF;cases d with
  |bl b'=>
   cases e;exact⟨b,lG.mp d1,q H1 s1⟩
  |_=>cases e⟩
theorem LR{a b:QX}{op:CmpOp}{r:R2}{g:D->D->Option D}{fa fb:FX}{pos:Pos}(ho:kY X (Rb op) r)(s:eB X.K r g)(ha:FE X a fa)(hb:FE X b fb)(hm:Rc op b=false):FT X (.Compare a [op] [b] pos) (fB (f2 g fa fb)):=
 PT.weak (DG ho ha hb hm) (Ce (vF s))
def zy(K:PD)(r:List V->Hp->VK->Prop)(g:List D->Option D):Prop:=
 ∀(ds:List D)(d:D)(xs:List V)(O:List QL)(H:Hp)(Q:VK),dW H O->g ds=some d->bj K (hid H O) ds xs->(∀v H',bE H H'->cQ K (hid H' O) d v->Q v H')->r xs H Q
def fL(g:List D->Option D)(f:av->R (List D)):FX:=λρ=>(f ρ).bind λds=>rO (g ds)
def fR(g:List D->R D)(f:av->R (List D)):FX:=λρ=>(f ρ).bind g
theorem CA{r:List V->Hp->VK->Prop}{g:List D->Option D}{f:av->R (List D)}(s:zy X.K r g):∀σ H Q,tF X (fL g f) σ H Q->Kq r (L3 X f) σ H Q:=λσ H Q ⟨O,ρ,E,hF⟩=>
 ⟨O,ρ,E,(i7.bind hF).imp fun ds hF vs H1 s1 d1=>by
  obtain⟨d,e,q⟩:=i7.rO hF;exact s ds d vs O H1 Q (E.all.same s1) e d1 λv H2 s2 d2=>q v H2 (s1.trans s2) d2⟩
def rC(f:av->R Bool):av->R Bool:=λρ=>(f ρ).bind λb=>.ok (!b)
def kD(f g:av->R Bool):av->R Bool:=λρ=>(f ρ).bind λb=>if b then g ρ else .ok false
def ya(f g:av->R Bool):av->R Bool:=λρ=>(f ρ).bind λb=>if b then .ok true else g ρ
variable{a b c:QX}{rest:List QX}{pos:Pos}{f g:av->R Bool}
theorem Ko(h:FT X a f):FT X (.UnaryOp .Not a pos) (rC f):=PT.weak (HI h) λσ H Q ⟨O,ρ,E,hF⟩=>⟨O,ρ,E,(i7.bind hF).imp λb q H1 s1=>q H1 s1⟩
theorem J5(h:FT X a f):FW X (.BoolOp .And [a] pos) f:=Ea h
theorem Ls(h:FT X a f):FW X (.BoolOp .Or [a] pos) f:=Gz h
theorem KY(ha:FT X a f)(hb:FW X (.BoolOp .And (b::rest) pos) g):FW X (.BoolOp .And (a::b::rest) pos) (kD f g):=PW.weak (Hk ha hb) λσ H Q ⟨O,ρ,E,hF⟩=>⟨O,ρ,E,(i7.bind hF).imp λc hF H1 s1=>by
 cases c with
 |true=>exact Dk ⟨O,ρ,E.same s1,(hF.mono s1).imp λb q H2 s2=>q H2 (s1.trans s2)⟩
 |false=>exact CB (hF H1 s1)⟩
theorem Mf(ha:FT X a f)(hb:FW X (.BoolOp .Or (b::rest) pos) g):FW X (.BoolOp .Or (a::b::rest) pos) (ya f g):=PW.weak (IR ha hb) λσ H Q ⟨O,ρ,E,hF⟩=>⟨O,ρ,E,(i7.bind hF).imp λc hF H1 s1=>by
 cases c with
 |false=>exact CB ⟨O,ρ,E.same s1,(hF.mono s1).imp λb q H2 s2=>q H2 (s1.trans s2)⟩
 |true=>exact Dk (hF H1 s1)⟩
theorem FW.ft{e:QX}(h:FW X e f):FT X e f:=PW.pt h
def truth:D->Option Bool
 |.non=>some false
 |.bl b=>some b
 |.int i=>some (i !=0)
 |.str x=>if small x.length then some (x.length !=0)else none
 |.tup xs=>some (!xs.isEmpty)
 |.lst xs=>some (!xs.isEmpty)
 |_=>none
def eX(f:FX):av->R Bool:=λρ=>(f ρ).bind λd=>rO (truth d)
def yj(d:D)(k:R D):R D:=match d with
 |.bl true=>k
 |.bl false=>.ok (.bl false)
 |_=>un
def JE(d:D)(k:R D):R D:=match d with
 |.bl false=>k
 |.bl true=>.ok (.bl true)
 |_=>un
def wu:D->Option D
 |.bl b=>some (.bl (!b))
 |_=>none
def sr(f g:FX):FX:=λρ=>(f ρ).bind λd=>yj d (g ρ)
def KN(f g:FX):FX:=λρ=>(f ρ).bind λd=>JE d (g ρ)
def IA(f:FX):FX:=f1 wu f
variable{fa fb:FX}
theorem LU{op}(h:FE X a fa):FE X (.BoolOp op [a] pos) fa:=GC h
theorem Kj(ha:FE X a fa)(hb:FE X (.BoolOp .And (b::rest) pos) fb):FE X (.BoolOp .And (a::b::rest) pos) (sr fa fb):=PE.weak (Ht ha hb) λσ H Q ⟨O,ρ,E,hF⟩=>⟨O,ρ,E,(i7.bind hF).imp λd hF x H1 s1 d1=>by
 cases d with
 |bl c=>
  refine⟨c,lG.mp d1,?_⟩;cases c with
  |true=>exact Dk ⟨O,ρ,E.same s1,(hF.mono s1).imp λd q v H2 s2 d2=>q v H2 (s1.trans s2) d2⟩
  |false=>exact CB (hF _ H1 s1 (lG.mpr rfl))
 |_=>exact hF.elim⟩
def ME(t:av->R Bool)(f g:FX):FX:=λρ=>(t ρ).bind λc=>if c then f ρ else g ρ
end
end TG
namespace TG
open PySem PySem.Spec L2
variable[bd]
open PySem.SeqAt (EqAt RcAt RcNeAt)
mutual
def pyEq:D->D->Bool
 |.non,.non=>true
 |.bl a,.bl b=>a==b
 |.bl a,.int b=>(if a then 1 else 0)==b
 |.int a,.bl b=>a==(if b then 1 else 0)
 |.int a,.int b=>a==b
 |.str a,.str b=>a==b
 |.tup xs,.tup ys=>pyEqL xs ys
 |.lst xs,.lst ys=>pyEqL xs ys
 |.dct _ _,.dct _ _=>true
 |.obj _ _ _,.obj _ _ _=>true
 |.exc _ _ _,.exc _ _ _=>true
 |_,_=>false
def pyEqL:List D->List D->Bool
 |[],[]=>true
 |x::xs,y::ys=>pyEq x y&&pyEqL xs ys
 |_,_=>false
end
mutual
theorem mw:∀d:D,pyEq d d=true
 |.non=>by unfold pyEq;rfl
 |.bl b=>by unfold pyEq;simp
 |.int i=>by unfold pyEq;simp
 |.str x=>by unfold pyEq;simp
 |.tup xs=>by unfold pyEq;exact nR xs
 |.lst xs=>by unfold pyEq;exact nR xs
 |.dct _ _=>by unfold pyEq;rfl
 |.obj _ _ _=>by unfold pyEq;rfl
 |.exc _ _ _=>by unfold pyEq;rfl
theorem nR:∀ds:List D,pyEqL ds ds=true
 |[]=>by unfold pyEqL;rfl
 |d::ds=>by unfold pyEqL;rw[mw d,nR ds];rfl
end
def yO(xs ys:List D)(j:Nat):Bool:=match xs[j]?,ys[j]? with
 |some a,some b=>pyEq a b
 |_,_=>false
theorem gH:∀xs ys:List D,((List.range (min xs.length ys.length)).all (yO xs ys)&&xs.length==ys.length)=pyEqL xs ys
 |[],[]=>by unfold pyEqL;rfl
 |[],_::_=>by unfold pyEqL;simp
 |_::_,[]=>by unfold pyEqL;simp
 |x::xs,y::ys=>by
  have ih:=gH xs ys
  conv=>rhs;unfold pyEqL
  rw[<-ih];have e:min (x::xs).length (y::ys).length=min xs.length ys.length+1:=by simp only[NE];omega
  rw[e,List.range_succ_eq_map,NX,List.all_map];have e2:((x::xs).length==(y::ys).length)=(xs.length==ys.length):=by simp
  rw[e2,Bool.and_assoc];have e3:(List.range (min xs.length ys.length)).all (yO (x::xs) (y::ys)∘Nat.succ)=(List.range (min xs.length ys.length)).all (yO xs ys):=by
   congr 1
  rw[e3];rfl
mutual
def pl:D->Bool
 |.tup xs=>lr xs
 |.lst xs=>lr xs
 |.dct _ _=>false
 |.obj _ _ _=>false
 |.exc _ _ _=>false
 |_=>true
def lr:List D->Bool
 |[]=>true
 |x::xs=>pl x&&lr xs
end
theorem gC{ks vs:List D}(h:pl (.dct ks vs)=true):False:=by unfold pl at h;cases h
theorem gD{c:Str}{fs:List Str}{vs:List D}(h:pl (.obj c fs vs)=true):False:=by unfold pl at h;cases h
theorem gE{c:Str}{fs:List Str}{vs:List D}(h:pl (.exc c fs vs)=true):False:=by unfold pl at h;cases h
theorem ny:∀{xs:List D},lr xs=true->∀x∈xs,pl x=true
 |[],_,_,h=>nomatch h
 |x::xs,h,y,hy=>by
  unfold lr at h;rw[Nu]at h;rcases List.mem_cons.mp hy with z|z
  ·rw[z];exact h.1
  ·exact ny h.2 y z
theorem pf:∀{xs:List D},(∀x∈xs,pl x=true)->lr xs=true
 |[],_=>by unfold lr;rfl
 |x::xs,h=>by
  unfold lr;rw[Nu];exact⟨h x MV,pf λy hy=>h y (MX _ hy)⟩
theorem de{xs:List D}:pl (.tup xs)=lr xs:=by rw[pl]
theorem eN{xs:List D}:pl (.lst xs)=lr xs:=by rw[pl]
def dH:Nat->D->Bool
 |n+1,.tup xs=>xs.all (dH n)
 |n+1,.lst xs=>xs.all (dH n)
 |0,.tup _=>false
 |0,.lst _=>false
 |_,.dct _ _=>false
 |_,.obj _ _ _=>false
 |_,.exc _ _ _=>false
 |_,_=>true
section
variable{X:Cx}{pins:List (QL×Obj)}{σ:St}{H:Hp}{s:QU}
theorem Inv.not_both(I:Inv X pins σ H s){a:QL}{xs ys:List V}(h:pY X.K H a xs)(h':n0 X.K H a ys):False:=by
 obtain⟨its,_,ht,_⟩:=I.tuple h;obtain⟨its2,_,hl,_⟩:=I.list h';exact absurd rfl (SeqAt.ne_of_list_tuple hl.isList (show s.heap.IsTuple a its.toArray from ht))
mutual
theorem Inv.den_inj(I:Inv X pins σ H s):∀{a b:D}{v:V},pl a=true->pl b=true->cQ X.K H a v->cQ X.K H b v->a=b
 |.non,b,v,pa,pb,h,h'=>by
  rw[kN]at h;subst h;cases b with
  |non=>rfl
  |bl _=>rw[lG]at h';cases h'
  |int _=>rw[fj]at h';cases h'
  |str _=>rw[fh]at h';cases h'
  |tup _=>rw[cG]at h';obtain⟨_,_,e,_⟩:=h';cases e
  |lst _=>rw[cH]at h';obtain⟨_,_,e,_⟩:=h';cases e
  |dct _ _=>exact(gC pb).elim
  |obj _ _ _=>exact(gD pb).elim
  |exc _ _ _=>exact(gE pb).elim
 |.bl x,b,v,pa,pb,h,h'=>by
  rw[lG]at h;subst h;cases b with
  |non=>rw[kN]at h';cases h'
  |bl _=>rw[lG]at h';cases h';rfl
  |int _=>rw[fj]at h';cases h'
  |str _=>rw[fh]at h';cases h'
  |tup _=>rw[cG]at h';obtain⟨_,_,e,_⟩:=h';cases e
  |lst _=>rw[cH]at h';obtain⟨_,_,e,_⟩:=h';cases e
  |dct _ _=>exact(gC pb).elim
  |obj _ _ _=>exact(gD pb).elim
  |exc _ _ _=>exact(gE pb).elim
 |.int x,b,v,pa,pb,h,h'=>by
  rw[fj]at h;subst h;cases b with
  |non=>rw[kN]at h';cases h'
  |bl _=>rw[lG]at h';cases h'
  |int _=>rw[fj]at h';cases h';rfl
  |str _=>rw[fh]at h';cases h'
  |tup _=>rw[cG]at h';obtain⟨_,_,e,_⟩:=h';cases e
  |lst _=>rw[cH]at h';obtain⟨_,_,e,_⟩:=h';cases e
  |dct _ _=>exact(gC pb).elim
  |obj _ _ _=>exact(gD pb).elim
  |exc _ _ _=>exact(gE pb).elim
 |.str x,b,v,pa,pb,h,h'=>by
  rw[fh]at h;subst h;cases b with
  |non=>rw[kN]at h';cases h'
  |bl _=>rw[lG]at h';cases h'
  |int _=>rw[fj]at h';cases h'
  |str _=>rw[fh]at h';cases h';rfl
  |tup _=>rw[cG]at h';obtain⟨_,_,e,_⟩:=h';cases e
  |lst _=>rw[cH]at h';obtain⟨_,_,e,_⟩:=h';cases e
  |dct _ _=>exact(gC pb).elim
  |obj _ _ _=>exact(gD pb).elim
  |exc _ _ _=>exact(gE pb).elim
 |.tup xs,b,v,pa,pb,h,h'=>by
  rw[cG]at h;obtain⟨a,vs,e,h1,h2⟩:=h;subst e;cases b with
  |non=>rw[kN]at h';cases h'
  |bl _=>rw[lG]at h';cases h'
  |int _=>rw[fj]at h';cases h'
  |str _=>rw[fh]at h';cases h'
  |tup ys=>
   rw[cG]at h';obtain⟨a',vs',e,h1',h2'⟩:=h';cases e;have ev:=I.tuple_inj (pY.of h1) (pY.of h1');subst ev;rw[Inv.denL_inj I (by first|rw[<-de];exact pa|rw[<-eN];exact pa) (by first|rw[<-de];exact pb|rw[<-eN];exact pb) h2 h2']
  |lst _=>rw[cH]at h';obtain⟨_,_,e,h1',_⟩:=h';cases e;exact(Inv.not_both I (pY.of h1) h1').elim
  |dct _ _=>exact(gC pb).elim
  |obj _ _ _=>exact(gD pb).elim
  |exc _ _ _=>exact(gE pb).elim
 |.lst xs,b,v,pa,pb,h,h'=>by
  rw[cH]at h;obtain⟨a,vs,e,h1,h2⟩:=h;subst e;cases b with
  |non=>rw[kN]at h';cases h'
  |bl _=>rw[lG]at h';cases h'
  |int _=>rw[fj]at h';cases h'
  |str _=>rw[fh]at h';cases h'
  |lst ys=>
   rw[cH]at h';obtain⟨a',vs',e,h1',h2'⟩:=h';cases e;have ev:=I.list_inj h1 h1';subst ev;rw[Inv.denL_inj I (by first|rw[<-de];exact pa|rw[<-eN];exact pa) (by first|rw[<-de];exact pb|rw[<-eN];exact pb) h2 h2']
  |tup _=>rw[cG]at h';obtain⟨_,_,e,h1',_⟩:=h';cases e;exact(Inv.not_both I (pY.of h1') h1).elim
  |dct _ _=>exact(gC pb).elim
  |obj _ _ _=>exact(gD pb).elim
  |exc _ _ _=>exact(gE pb).elim
 |.dct _ _,_,_,pa,_,_,_=>(gC pa).elim
 |.obj _ _ _,_,_,pa,_,_,_=>(gD pa).elim
 |.exc _ _ _,_,_,pa,_,_,_=>(gE pa).elim
theorem Inv.denL_inj(I:Inv X pins σ H s):∀{as bs:List D}{vs:List V},lr as=true->lr bs=true->bj X.K H as vs->bj X.K H bs vs->as=bs
 |[],bs,vs,pa,pb,h,h'=>by
  rw[cY]at h;subst h;cases bs with
  |nil=>rfl
  |cons b bs=>rw[bM]at h';obtain⟨_,_,e,_⟩:=h';cases e
 |a::as,bs,vs,pa,pb,h,h'=>by
  rw[bM]at h;obtain⟨v,r,e,h1,h2⟩:=h;subst e;cases bs with
  |nil=>rw[cY]at h';cases h'
  |cons b bs=>
   rw[bM]at h';obtain⟨v',r',e,h1',h2'⟩:=h';cases e;unfold lr at pa pb;rw[Nu]at pa pb;rw[Inv.den_inj I pa.1 pb.1 h1 h1',Inv.denL_inj I pa.2 pb.2 h2 h2']
end
def nF:D->Option V
 |.non=>some .non
 |.bl b=>some (.bl b)
 |.int i=>some (.int i)
 |.str x=>some (.str x)
 |_=>none
theorem pV{K:PD}{d:D}{v x:V}(h:nF d=some x)(hd:cQ K H d v):v=x/\BO x=true:=by
 cases d with
 |non=>cases h;exact⟨kN.mp hd,rfl⟩
 |bl b=>cases h;exact⟨lG.mp hd,rfl⟩
 |int i=>cases h;exact⟨fj.mp hd,rfl⟩
 |str y=>cases h;exact⟨fh.mp hd,rfl⟩
 |_=>cases h
theorem EE{a b:D}{x y:V}(ha:nF a=some x)(hb:nF b=some y):LX x y=pyEq a b:=by
 cases a<;>cases ha<;>cases b<;>cases hb<;>(unfold pyEq LX;rfl)
theorem wQ{a:D}{x:V}(n:Nat)(h:nF a=some x):dH n a=true:=by
 cases a with
 |tup _=>cases h
 |lst _=>cases h
 |dct _ _=>cases h
 |obj _ _ _=>cases h
 |exc _ _ _=>cases h
 |_=>cases n<;>rfl
theorem wm{a:D}(h:nF a=none):dH 0 a=false:=by
 cases a with
 |tup _=>rfl
 |lst _=>rfl
 |dct _ _=>rfl
 |obj _ _ _=>rfl
 |exc _ _ _=>rfl
 |_=>cases h
theorem in1_units(A:QT):A.in1.units=A.units+1:=rfl
theorem oK{vs:List V}{us:List QI}(r:Vals vs us){j:Nat}(h:j<us.toArray.size):∃x,vs[j]?=some x/\RelV x us.toArray[j]:=by
 have hj:j<us.length:=by simpa using h
 have hl:=r.length;have hv:j<vs.length:=by omega
 obtain⟨u,e,ru⟩:=r.get (i:=j) (x:=vs[j]) (by simp[hv]);refine⟨vs[j],by simp[hv],?_⟩;have e2:us.toArray[j]=u:=by
  rw[NY hj]at e
  simpa using Option.some.inj e
 rw[e2];exact ru
theorem oD{K:PD}{ds:List D}{vs:List V}(h:bj K H ds vs){j:Nat}{x:V}(e:vs[j]?=some x):∃d,ds[j]?=some d/\cQ K H d x:=by
 have hj:j<vs.length:=(List.getElem?_eq_some_iff.mp e).1;have hl:=h.length;have hd:j<ds.length:=by omega
 obtain⟨v,e1,e2⟩:=h.get (i:=j) (d:=ds[j]) (by simp[hd]);rw[e]at e1;cases e1;exact⟨ds[j],by simp[hd],e2⟩
theorem Cb(I:Inv X pins σ H s):∀(n:Nat)(a b:D)(x y:V)(u v:QI)(A:QT),pl a=true->pl b=true->(dH n a=true\/dH n b=true)->cQ X.K H a x->cQ X.K H b y->RelV x u->RelV y v->A.units+n<Rl->EqAt A s u v (pyEq a b):=by
 intro n
 induction n with
 |zero=>
  intro a b x y u v A pa pb hd ha hb ru rv hA;have hu:A.units<Rl:=hA;cases ha':nF a with
  |some x'=>
   obtain⟨e,f⟩:=pV ha' ha;subst e;cases hb':nF b with
   |some y'=>
    obtain⟨e,f'⟩:=pV hb' hb;subst e;rw[<-EE ha' hb'];exact HE ru rv f f'
   |none=>
    cases b with
    |tup ys=>
     rw[cG]at hb;obtain⟨p,vs,e,h1,h2⟩:=hb;subst e;cases rv;obtain⟨its,_,ht,_⟩:=I.tuple (pY.of h1);have ht':s.heap.IsTuple p its.toArray:=ht;cases a with
     |non=>cases ha';cases ru;unfold pyEq;exact .none_tuple ht' hu
     |bl z=>cases ha';cases ru;unfold pyEq;exact .bool_tuple z ht' hu
     |int z=>cases ha';obtain⟨t,rfl⟩:=ru;unfold pyEq;exact .int_tuple z t ht' hu
     |str z=>cases ha';obtain⟨t,rfl⟩:=ru;unfold pyEq;exact .str_tuple z t ht' hu
     |_=>cases ha'
    |lst ys=>
     rw[cH]at hb;obtain⟨p,vs,e,h1,h2⟩:=hb;subst e;cases rv;obtain⟨its,_,ht,_⟩:=I.list h1;have ht':s.heap.IsList p its.toArray:=ht.isList;cases a with
     |non=>cases ha';cases ru;unfold pyEq;exact .none_list ht' hu
     |bl z=>cases ha';cases ru;unfold pyEq;exact .bool_list z ht' hu
     |int z=>cases ha';obtain⟨t,rfl⟩:=ru;unfold pyEq;exact .int_list z t ht' hu
     |str z=>cases ha';obtain⟨t,rfl⟩:=ru;unfold pyEq;exact .str_list z t ht' hu
     |_=>cases ha'
    |dct _ _=>exact(gC pb).elim
    |obj _ _ _=>exact(gD pb).elim
    |exc _ _ _=>exact(gE pb).elim
    |_=>cases hb'
  |none=>
   have hdb:dH 0 b=true:=by
    rcases hd with hd|hd
    ·rw[wm ha']at hd;cases hd
    ·exact hd
   cases hb':nF b with
   |none=>rw[wm hb']at hdb;cases hdb
   |some y'=>
    obtain⟨e,f'⟩:=pV hb' hb;subst e;cases a with
    |tup xs=>
     rw[cG]at ha;obtain⟨p,vs,e,h1,h2⟩:=ha;subst e;cases ru;obtain⟨its,_,ht,_⟩:=I.tuple (pY.of h1);have ht':s.heap.IsTuple p its.toArray:=ht;cases b with
     |non=>cases hb';cases rv;unfold pyEq;exact .tuple_none ht' hu
     |bl z=>cases hb';cases rv;unfold pyEq;exact .tuple_bool z ht' hu
     |int z=>cases hb';obtain⟨t,rfl⟩:=rv;unfold pyEq;exact .tuple_int z t ht' hu
     |str z=>cases hb';obtain⟨t,rfl⟩:=rv;unfold pyEq;exact .tuple_str z t ht' hu
     |_=>cases hb'
    |lst xs=>
     rw[cH]at ha;obtain⟨p,vs,e,h1,h2⟩:=ha;subst e;cases ru;obtain⟨its,_,ht,_⟩:=I.list h1;have ht':s.heap.IsList p its.toArray:=ht.isList;cases b with
     |non=>cases hb';cases rv;unfold pyEq;exact .list_none ht' hu
     |bl z=>cases hb';cases rv;unfold pyEq;exact .list_bool z ht' hu
     |int z=>cases hb';obtain⟨t,rfl⟩:=rv;unfold pyEq;exact .list_int z t ht' hu
     |str z=>cases hb';obtain⟨t,rfl⟩:=rv;unfold pyEq;exact .list_str z t ht' hu
     |_=>cases hb'
    |dct _ _=>exact(gC pa).elim
    |obj _ _ _=>exact(gD pa).elim
    |exc _ _ _=>exact(gE pa).elim
    |_=>cases ha'
 |succ n ih=>
  intro a b x y u v A pa pb hd ha hb ru rv hA;have hu:A.units<Rl:=by omega
  have flatWay:(∀xs ys,¬(a=.tup xs/\b=.tup ys))->(∀xs ys,¬(a=.lst xs/\b=.lst ys))->EqAt A s u v (pyEq a b):=by
   intro n1 n2;cases ha':nF a with
   |some x'=>exact ih a b x y u v A pa pb (.inl (wQ n ha')) ha hb ru rv ‹0›
   |none=>
    cases hb':nF b with
    |some y'=>exact ih a b x y u v A pa pb (.inr (wQ n hb')) ha hb ru rv ‹0›
    |none=>
     cases a with
     |tup xs=>
      cases b with
      |tup ys=>exact absurd ⟨rfl,rfl⟩ (n1 xs ys)
      |lst ys=>
       rw[cG]at ha;obtain⟨p,vs,e,h1,h2⟩:=ha;subst e;rw[cH]at hb;obtain⟨p',vs',e,h1',h2'⟩:=hb;subst e;cases ru;cases rv;obtain⟨its,_,ht,_⟩:=I.tuple (pY.of h1);obtain⟨its2,_,ht2,_⟩:=I.list h1';unfold pyEq;exact .tuple_list (show s.heap.IsTuple p its.toArray from ht) ht2.isList hu
      |dct _ _=>exact(gC pb).elim
      |obj _ _ _=>exact(gD pb).elim
      |exc _ _ _=>exact(gE pb).elim
      |_=>cases hb'
     |lst xs=>
      cases b with
      |lst ys=>exact absurd ⟨rfl,rfl⟩ (n2 xs ys)
      |tup ys=>
       rw[cH]at ha;obtain⟨p,vs,e,h1,h2⟩:=ha;subst e;rw[cG]at hb;obtain⟨p',vs',e,h1',h2'⟩:=hb;subst e;cases ru;cases rv;obtain⟨its,_,ht,_⟩:=I.list h1;obtain⟨its2,_,ht2,_⟩:=I.tuple (pY.of h1');unfold pyEq;exact .list_tuple ht.isList (show s.heap.IsTuple p' its2.toArray from ht2) hu
      |dct _ _=>exact(gC pb).elim
      |obj _ _ _=>exact(gD pb).elim
      |exc _ _ _=>exact(gE pb).elim
      |_=>cases hb'
     |dct _ _=>exact(gC pa).elim
     |obj _ _ _=>exact(gD pa).elim
     |exc _ _ _=>exact(gE pa).elim
     |_=>cases ha'
  have items:∀(xs ys:List D)(vs vs':List V)(its its':List QI),lr xs=true->lr ys=true->(dH (n+1) (.tup xs)=true\/dH (n+1) (.tup ys)=true)->bj X.K H xs vs->bj X.K H ys vs'->Vals vs its->Vals vs' its'->
    ∀j (h1:j<its.toArray.size) (h2:j<its'.toArray.size),EqAt A.in1 s its.toArray[j] its'.toArray[j] (yO xs ys j):=by
   intro xs ys vs vs' its its' px py hdd hx hy rx ry j h1 h2;obtain⟨w1,e1,r1⟩:=oK rx h1;obtain⟨w2,e2,r2⟩:=oK ry h2;obtain⟨d1,f1,g1⟩:=oD hx e1;obtain⟨d2,f2,g2⟩:=oD hy e2;have e3:yO xs ys j=pyEq d1 d2:=(by unfold yO;rw[f1,f2]);rw[e3];refine ih d1 d2 w1 w2 _ _ A.in1 (ny px _ (Nn f1)) (ny py _ (Nn f2)) ?_ g1 g2 r1 r2 (by rw[in1_units];omega);rcases hdd with hdd|hdd
   ·exact .inl (List.all_eq_true.mp hdd d1 (Nn f1))
   ·exact .inr (List.all_eq_true.mp hdd d2 (Nn f2))
  by_cases hT:∃xs ys,a=.tup xs/\b=.tup ys
  ·obtain⟨xs,ys,rfl,rfl⟩:=hT;have da:=ha;have db:=hb;rw[cG]at ha hb;obtain⟨p,vs,e,h1,h2⟩:=ha;subst e;obtain⟨p',vs',e,h1',h2'⟩:=hb;subst e;cases ru;cases rv;by_cases hp:p=p'
   ·subst hp;have e:=Inv.den_inj I pa pb da db;rw[e,mw];exact EqAt.same _
   ·obtain⟨its,rv1,ht,_⟩:=I.tuple (pY.of h1);obtain⟨its2,rv2,ht2,_⟩:=I.tuple (pY.of h1');refine EqAt.of_refs hp ?_;have q:=RcAt.tuples (e:=yO xs ys) (show s.heap.IsTuple p its.toArray from ht) (show s.heap.IsTuple p' its2.toArray from ht2) hu (items xs ys vs vs' its its2 (by first|rw[<-de];exact pa|rw[<-eN];exact pa) (by first|rw[<-de];exact pb|rw[<-eN];exact pb) hd h2 h2' rv1 rv2);have z1:its.toArray.size=xs.length:=(by rw[M8,<-rv1.length,<-h2.length]);have z2:its2.toArray.size=ys.length:=(by rw[M8,<-rv2.length,<-h2'.length]);rw[z1,z2,gH]at q;unfold pyEq;exact q
  ·by_cases hL:∃xs ys,a=.lst xs/\b=.lst ys
   ·obtain⟨xs,ys,rfl,rfl⟩:=hL;have da:=ha;have db:=hb;rw[cH]at ha hb;obtain⟨p,vs,e,h1,h2⟩:=ha;subst e;obtain⟨p',vs',e,h1',h2'⟩:=hb;subst e;cases ru;cases rv;by_cases hp:p=p'
    ·subst hp;have e:=Inv.den_inj I pa pb da db;rw[e,mw];exact EqAt.same _
    ·obtain⟨its,rv1,ht,_⟩:=I.list h1;obtain⟨its2,rv2,ht2,_⟩:=I.list h1';refine EqAt.of_refs hp ?_;have z1:its.toArray.size=xs.length:=(by rw[M8,<-rv1.length,<-h2.length]);have z2:its2.toArray.size=ys.length:=(by rw[M8,<-rv2.length,<-h2'.length]);have er:=gH xs ys;by_cases hz:its.toArray.size=its2.toArray.size
     ·have q:=RcAt.lists (e:=yO xs ys) ht.isList ht2.isList hz hu (items xs ys vs vs' its its2 (by first|rw[<-de];exact pa|rw[<-eN];exact pa) (by first|rw[<-de];exact pb|rw[<-eN];exact pb) hd h2 h2' rv1 rv2);rw[z1]at q;have hz':xs.length=ys.length:=(by omega);rw[<-hz',NZ]at er;simp only[beq_self_eq_true,N0]at er;rw[er]at q;unfold pyEq;exact q
     ·have hne:(its.toArray.size !=its2.toArray.size)=true:=(by simpa using hz);have q:=RcAt.lists_lengths (A:=A) ht.isList ht2.isList hne hu;have hz':(xs.length==ys.length)=false:=by
       rw[z1,z2]at hz
       simpa using hz
      rw[hz',N1]at er;unfold pyEq;rw[<-er];exact q
   ·exact flatWay (λxs ys z=>hT ⟨xs,ys,z⟩) λxs ys z=>hL ⟨xs,ys,z⟩
end
end TG
namespace TG
open PySem PySem.Spec L2
variable[bd]
open PySem.SeqAt (EqAt RcAt RcNeAt)
section
variable{X:Cx}{pins:List (QL×Obj)}{σ:St}{H:Hp}{s:QU}
theorem qD(I:Inv X pins σ H s){n:Nat}{xs ys:List D}{vs vs':List V}{its its':List QI}{A:QT}(px:lr xs=true)(py:lr ys=true)(hdd:dH (n+1) (.tup xs)=true\/dH (n+1) (.tup ys)=true)(hx:bj X.K H xs vs)(hy:bj X.K H ys vs')(rx:Vals vs its)(ry:Vals vs' its')(hA:A.units+n<Rl):
  ∀j (h1:j<its.toArray.size) (h2:j<its'.toArray.size),EqAt A s its.toArray[j] its'.toArray[j] (yO xs ys j):=by
 intro j h1 h2;obtain⟨w1,e1,r1⟩:=oK rx h1;obtain⟨w2,e2,r2⟩:=oK ry h2;obtain⟨d1,f1,g1⟩:=oD hx e1;obtain⟨d2,f2,g2⟩:=oD hy e2;have e3:yO xs ys j=pyEq d1 d2:=by unfold yO;rw[f1,f2]
 rw[e3];refine Cb I n d1 d2 w1 w2 _ _ A (ny px _ (Nn f1)) (ny py _ (Nn f2)) ?_ g1 g2 r1 r2 hA;rcases hdd with hdd|hdd
 ·exact .inl (List.all_eq_true.mp hdd d1 (Nn f1))
 ·exact .inr (List.all_eq_true.mp hdd d2 (Nn f2))
inductive Way(I:Inv X pins σ H s):D->QI->Prop where
 |non:Way I .non .none
 |bl (b:Bool):Way I (.bl b) (.bool b)
 |int (i:Int) (t:Tok):Way I (.int i) (.int i t)
 |str (x:Str) (t:Tok):Way I (.str x) (.str x t)
 |tup {xs:List D} {p:QL} {vs:List V} {its:List QI} (h:bj X.K H xs vs) (r:Vals vs its) (t:s.heap.IsTuple p its.toArray):Way I (.tup xs) (.ref p)
 |lst {xs:List D} {p:QL} {vs:List V} {its:List QI} (h:bj X.K H xs vs) (r:Vals vs its) (t:s.heap.IsList p its.toArray):Way I (.lst xs) (.ref p)
def top:D->Bool
 |.dct _ _=>false
 |.obj _ _ _=>false
 |.exc _ _ _=>false
 |_=>true
theorem fX{d:D}(h:pl d=true):top d=true:=by
 cases d with
 |dct _ _=>exact(gC h).elim
 |obj _ _ _=>exact(gD h).elim
 |exc _ _ _=>exact(gE h).elim
 |_=>rfl
theorem fD(I:Inv X pins σ H s){d:D}{v:V}{u:QI}(pd:top d=true)(h:cQ X.K H d v)(r:RelV v u):Way I d u:=by
 cases d with
 |non=>rw[kN]at h;subst h;cases r;exact .non
 |bl b=>rw[lG]at h;subst h;cases r;exact .bl b
 |int i=>rw[fj]at h;subst h;obtain⟨t,rfl⟩:=r;exact .int i t
 |str x=>rw[fh]at h;subst h;obtain⟨t,rfl⟩:=r;exact .str x t
 |tup xs=>
  rw[cG]at h;obtain⟨p,vs,e,h1,h2⟩:=h;subst e;cases r;obtain⟨its,rv,ht,_⟩:=I.tuple (pY.of h1);exact .tup h2 rv ht
 |lst xs=>
  rw[cH]at h;obtain⟨p,vs,e,h1,h2⟩:=h;subst e;cases r;obtain⟨its,rv,ht,_⟩:=I.list h1;exact .lst h2 rv ht.isList
 |dct _ _=>cases pd
 |obj _ _ _=>cases pd
 |exc _ _ _=>cases pd
theorem HG(I:Inv X pins σ H s){n:Nat}{a b:D}{x y:V}{u v:QI}{A:QT}(pa:pl a=true)(pb:pl b=true)(hd:dH (n+1) a=true\/dH (n+1) b=true)(ha:cQ X.K H a x)(hb:cQ X.K H b y)(ru:RelV x u)(rv:RelV y v)(hA:A.units+n+1<Rl):RcAt A s u v (pyEq a b):=by
 have hu:A.units<Rl:=by omega
 cases fD I (fX pa) ha ru with
 |non=>cases fD I (fX pb) hb rv with
  |non=>unfold pyEq;exact .none_none
  |bl b=>unfold pyEq;exact .none_bool b
  |int i t=>unfold pyEq;exact .none_int i t
  |str x t=>unfold pyEq;exact .none_str x t
  |tup h r t=>unfold pyEq;exact .none_tuple t hu
  |lst h r t=>unfold pyEq;exact .none_list t hu
 |bl z=>cases fD I (fX pb) hb rv with
  |non=>unfold pyEq;exact .bool_none z
  |bl b=>unfold pyEq;exact .bool_bool z b
  |int i t=>unfold pyEq;exact .bool_int z i t
  |str x t=>unfold pyEq;exact .bool_str z x t
  |tup h r t=>unfold pyEq;exact .bool_tuple z t hu
  |lst h r t=>unfold pyEq;exact .bool_list z t hu
 |int z tz=>cases fD I (fX pb) hb rv with
  |non=>unfold pyEq;exact .int_none z tz
  |bl b=>unfold pyEq;exact .int_bool z tz b
  |int i t=>unfold pyEq;exact .int_int z tz i t
  |str x t=>unfold pyEq;exact .int_str z tz x t
  |tup h r t=>unfold pyEq;exact .int_tuple z tz t hu
  |lst h r t=>unfold pyEq;exact .int_list z tz t hu
 |str z tz=>cases fD I (fX pb) hb rv with
  |non=>unfold pyEq;exact .str_none z tz
  |bl b=>unfold pyEq;exact .str_bool z tz b
  |int i t=>unfold pyEq;exact .str_int z tz i t
  |str x t=>unfold pyEq;exact .str_str z tz x t
  |tup h r t=>unfold pyEq;exact .str_tuple z tz t hu
  |lst h r t=>unfold pyEq;exact .str_list z tz t hu
 |@tup xs p vs its h1 r1 t1=>cases fD I (fX pb) hb rv with
  |non=>unfold pyEq;exact .tuple_none t1 hu
  |bl b=>unfold pyEq;exact .tuple_bool b t1 hu
  |int i t=>unfold pyEq;exact .tuple_int i t t1 hu
  |str x t=>unfold pyEq;exact .tuple_str x t t1 hu
  |@tup ys p' vs' its' h2 r2 t2=>
   have q:=RcAt.tuples (e:=yO xs ys) t1 t2 hu (qD (A:=A.in1) I (by first|rw[<-de];exact pa|rw[<-eN];exact pa) (by first|rw[<-de];exact pb|rw[<-eN];exact pb) hd h1 h2 r1 r2 (by rw[in1_units];omega));have z1:its.toArray.size=xs.length:=(by rw[M8,<-r1.length,<-h1.length]);have z2:its'.toArray.size=ys.length:=(by rw[M8,<-r2.length,<-h2.length]);rw[z1,z2,gH]at q;unfold pyEq;exact q
  |lst h r t=>unfold pyEq;exact .tuple_list t1 t hu
 |@lst xs p vs its h1 r1 t1=>cases fD I (fX pb) hb rv with
  |non=>unfold pyEq;exact .list_none t1 hu
  |bl b=>unfold pyEq;exact .list_bool b t1 hu
  |int i t=>unfold pyEq;exact .list_int i t t1 hu
  |str x t=>unfold pyEq;exact .list_str x t t1 hu
  |tup h r t=>unfold pyEq;exact .list_tuple t1 t hu
  |@lst ys p' vs' its' h2 r2 t2=>
   have z1:its.toArray.size=xs.length:=(by rw[M8,<-r1.length,<-h1.length]);have z2:its'.toArray.size=ys.length:=(by rw[M8,<-r2.length,<-h2.length]);have er:=gH xs ys;by_cases hz:its.toArray.size=its'.toArray.size
   ·have q:=RcAt.lists (e:=yO xs ys) t1 t2 hz hu (qD (A:=A.in1) I (by first|rw[<-de];exact pa|rw[<-eN];exact pa) (by first|rw[<-de];exact pb|rw[<-eN];exact pb) hd h1 h2 r1 r2 (by rw[in1_units];omega));rw[z1]at q;have hz':xs.length=ys.length:=(by omega);rw[<-hz',NZ]at er;simp only[beq_self_eq_true,N0]at er;rw[er]at q;unfold pyEq;exact q
   ·have q:=RcAt.lists_lengths (A:=A) t1 t2 (by simpa using hz) hu;have hz':(xs.length==ys.length)=false:=by
     rw[z1,z2]at hz
     simpa using hz
    rw[hz',N1]at er;unfold pyEq;rw[<-er];exact q
theorem CZ(I:Inv X pins σ H s){n:Nat}{a b:D}{x y:V}{u v:QI}{A:QT}(pa:pl a=true)(pb:pl b=true)(hd:dH (n+1) a=true\/dH (n+1) b=true)(ha:cQ X.K H a x)(hb:cQ X.K H b y)(ru:RelV x u)(rv:RelV y v)(hA:A.units+n+1<Rl):RcNeAt A s u v (!pyEq a b):=by
 have hu:A.units<Rl:=by omega
 cases fD I (fX pa) ha ru with
 |non=>cases fD I (fX pb) hb rv with
  |non=>unfold pyEq;exact .none_none
  |bl b=>unfold pyEq;exact .none_bool b
  |int i t=>unfold pyEq;exact .none_int i t
  |str x t=>unfold pyEq;exact .none_str x t
  |tup h r t=>unfold pyEq;exact .none_tuple t hu
  |lst h r t=>unfold pyEq;exact .none_list t hu
 |bl z=>cases fD I (fX pb) hb rv with
  |non=>unfold pyEq;exact .bool_none z
  |bl b=>unfold pyEq;exact .bool_bool z b
  |int i t=>unfold pyEq;exact .bool_int z i t
  |str x t=>unfold pyEq;exact .bool_str z x t
  |tup h r t=>unfold pyEq;exact .bool_tuple z t hu
  |lst h r t=>unfold pyEq;exact .bool_list z t hu
 |int z tz=>cases fD I (fX pb) hb rv with
  |non=>unfold pyEq;exact .int_none z tz
  |bl b=>unfold pyEq;exact .int_bool z tz b
  |int i t=>unfold pyEq;exact .int_int z tz i t
  |str x t=>unfold pyEq;exact .int_str z tz x t
  |tup h r t=>unfold pyEq;exact .int_tuple z tz t hu
  |lst h r t=>unfold pyEq;exact .int_list z tz t hu
 |str z tz=>cases fD I (fX pb) hb rv with
  |non=>unfold pyEq;exact .str_none z tz
  |bl b=>unfold pyEq;exact .str_bool z tz b
  |int i t=>unfold pyEq;exact .str_int z tz i t
  |str x t=>unfold pyEq;exact .str_str z tz x t
  |tup h r t=>unfold pyEq;exact .str_tuple z tz t hu
  |lst h r t=>unfold pyEq;exact .str_list z tz t hu
 |@tup xs p vs its h1 r1 t1=>cases fD I (fX pb) hb rv with
  |non=>unfold pyEq;exact .tuple_none t1 hu
  |bl b=>unfold pyEq;exact .tuple_bool b t1 hu
  |int i t=>unfold pyEq;exact .tuple_int i t t1 hu
  |str x t=>unfold pyEq;exact .tuple_str x t t1 hu
  |@tup ys p' vs' its' h2 r2 t2=>
   have q:=RcNeAt.tuples (e:=yO xs ys) t1 t2 hu (qD (A:=A.in1) I (by first|rw[<-de];exact pa|rw[<-eN];exact pa) (by first|rw[<-de];exact pb|rw[<-eN];exact pb) hd h1 h2 r1 r2 (by rw[in1_units];omega));have z1:its.toArray.size=xs.length:=(by rw[M8,<-r1.length,<-h1.length]);have z2:its'.toArray.size=ys.length:=(by rw[M8,<-r2.length,<-h2.length]);rw[z1,z2,gH]at q;unfold pyEq;exact q
  |lst h r t=>unfold pyEq;exact .tuple_list t1 t hu
 |@lst xs p vs its h1 r1 t1=>cases fD I (fX pb) hb rv with
  |non=>unfold pyEq;exact .list_none t1 hu
  |bl b=>unfold pyEq;exact .list_bool b t1 hu
  |int i t=>unfold pyEq;exact .list_int i t t1 hu
  |str x t=>unfold pyEq;exact .list_str x t t1 hu
  |tup h r t=>unfold pyEq;exact .list_tuple t1 t hu
  |@lst ys p' vs' its' h2 r2 t2=>
   have z1:its.toArray.size=xs.length:=(by rw[M8,<-r1.length,<-h1.length]);have z2:its'.toArray.size=ys.length:=(by rw[M8,<-r2.length,<-h2.length]);have er:=gH xs ys;by_cases hz:its.toArray.size=its'.toArray.size
   ·have q:=RcNeAt.lists (e:=yO xs ys) t1 t2 hz hu (qD (A:=A.in1) I (by first|rw[<-de];exact pa|rw[<-eN];exact pa) (by first|rw[<-de];exact pb|rw[<-eN];exact pb) hd h1 h2 r1 r2 (by rw[in1_units];omega));rw[z1]at q;have hz':xs.length=ys.length:=(by omega);rw[<-hz',NZ]at er;simp only[beq_self_eq_true,N0]at er;rw[er]at q;unfold pyEq;exact q
   ·have q:=RcNeAt.lists_lengths (A:=A) t1 t2 (by simpa using hz) hu;have hz':(xs.length==ys.length)=false:=by
     rw[z1,z2]at hz
     simpa using hz
    rw[hz',N1]at er;unfold pyEq;rw[<-er];exact q
end
section
variable{X:Cx}
def rD(K:PD)(g:D->D->Option D):R2:=λx y H Q=>∃O a b d,dW H O/\cQ K (hid H O) a x/\cQ K (hid H O) b y/\g a b=some d/\∀v H',bE H H'->cQ K (hid H' O) d v->Q v H'
theorem au{K:PD}{g:D->D->Option D}:eB K (rD K g) g:=λa b d x y O H Q hO hg ha hb q=>⟨O,a,b,d,hO,ha,hb,hg,q⟩
theorem oF{f : QI -> QI -> Sem QI}{g : D -> D -> Option D}(h : ∀ (pins : List (QL × Obj)) (s : QU) (σ : St) (H : Hp) (a b d : D) (x y : V) (u v : QI), Inv X pins σ H s -> cQ X.K H a x -> cQ X.K H b y -> RelV x u -> RelV y v -> g a b = some d ->
      ∃c,d=.bl c/\∀(Q:QI->QU->Prop),Q (.bool c) s->QW (model X.prog X.w) X.A (f u v) Q X.xe s):kY X f (rD X.K g):=by
  intro pins s σ H x y u v Q I rx ry ⟨O,a,b,d,hO,ha,hb,hg,q⟩;obtain⟨c,rfl,hq⟩:=h pins s σ H a b d x y u v I (ha.mono (aK H O)) (hb.mono (aK H O)) rx ry hg;exact hq _ ⟨.bl c,H,I,rfl,q _ H (bE.refl H) (lG.mpr rfl)⟩
def lg(a b:D):Option D:=if(pl a&&pl b)&&(dH 8 a||dH 8 b)then some (.bl (pyEq a b))else none
def vR(a b:D):Option D:=if(pl a&&pl b)&&(dH 8 a||dH 8 b)then some (.bl (!pyEq a b))else none
theorem dz(hu:X.A.units+64<Rl):kY X (Rb .Eq) (rD X.K lg):=oF λpins s σ H a b d x y u v I ha hb ru rv hg=>by
 obtain⟨h1,h2⟩:=bX hg;subst h2;rw[Nu,Nu,N2]at h1;exact⟨_,rfl,λQ q=>HG (n:=7) (A:=X.A) I h1.1.1 h1.1.2 h1.2 ha hb ru rv ‹0› X.prog X.w X.xe Q q⟩
theorem rp(hu:X.A.units+64<Rl):kY X (Rb .NotEq) (rD X.K vR):=oF λpins s σ H a b d x y u v I ha hb ru rv hg=>by
 obtain⟨h1,h2⟩:=bX hg;subst h2;rw[Nu,Nu,N2]at h1;exact⟨_,rfl,λQ q=>CZ (n:=7) (A:=X.A) I h1.1.1 h1.1.2 h1.2 ha hb ru rv ‹0› X.prog X.w X.xe Q q⟩
def inD(x:D)(ys:List D):Bool:=ys.any λy=>pyEq y x
def AV(x y:D):Option D:=match y with
 |.tup ys=>if(pl x&&lr ys)&&dH 8 x then some (.bl (inD x ys))else none
 |.lst ys=>if(pl x&&lr ys)&&dH 8 x then some (.bl (inD x ys))else none
 |_=>none
def ce(x y:D):Option D:=match y with
 |.tup ys=>if(pl x&&lr ys)&&dH 8 x then some (.bl (!inD x ys))else none
 |.lst ys=>if(pl x&&lr ys)&&dH 8 x then some (.bl (!inD x ys))else none
 |_=>none
open Classical in
theorem zk{pins:List (QL×Obj)}{σ:St}{H:Hp}{s:QU}(I:Inv X pins σ H s){xd:D}{x:V}{u:QI}{A:QT}(px:pl xd=true)(hd:dH 8 xd=true)(hx:cQ X.K H xd x)(ru:RelV x u)(hA:A.units+8<Rl){ys:List D}{vs:List V}{its:List QI}(py:lr ys=true)(hy:bj X.K H ys vs)(rv:Vals vs its):
  ∃e:QI->Bool,(∀y,y∈its.toArray->EqAt A s y u (e y))/\its.toArray.any e=inD xd ys:=by
 let e:QI->Bool:=λy=>decide (∃d w,pl d=true/\cQ X.K H d w/\RelV w y/\pyEq d xd=true)
 have he:∀d w y,pl d=true->cQ X.K H d w->RelV w y->e y=pyEq d xd:=λd w y h0 h1 h2=>by
  cases hq:pyEq d xd with
  |true=>exact decide_eq_true ⟨d,w,h0,h1,h2,hq⟩
  |false=>
   refine decide_eq_false ?_;rintro⟨d',w',g0,g1,g2,g3⟩;have ew:=RelV.inj h2 g2;subst ew;rw[Inv.den_inj I h0 g0 h1 g1,g3]at hq;cases hq
 refine⟨e,λy hy'=>?_,?_⟩
 ·have hm:y∈its:=by simpa using hy'
  obtain⟨j,hj,rfl⟩:=N3 hm;obtain⟨w,e1,r1⟩:=oK rv (j:=j) (by simpa using hj);obtain⟨d,f1,g1⟩:=oD hy e1;have r1':RelV w its[j]:=by simpa using r1
  have pd:=ny py _ (Nn f1);rw[he d w _ pd g1 r1'];exact Cb I 8 d xd w x _ u A pd px (.inr hd) g1 hx r1' ru hA
 ·unfold inD;have go:∀(ys:List D)(vs:List V)(its:List QI),lr ys=true->bj X.K H ys vs->Vals vs its->its.any e=ys.any λy=>pyEq y xd:=by
   intro ys
   induction ys with
   |nil=>
    intro vs its py h r;rw[cY]at h;subst h;cases r;rfl
   |cons y ys ih=>
    intro vs its py h r;unfold lr at py;rw[Nu]at py;rw[bM]at h;obtain⟨v,r',e1,h1,h2⟩:=h;subst e1;cases r with
    |cons q1 q2=>rw[NB,NB,he y v _ py.1 h1 q1,ih _ _ py.2 h2 q2]
  rw[List.any_toArray];exact go ys vs its py hy rv
theorem vI(hu:X.A.units+64<Rl):kY X (Rb .In) (rD X.K AV):=oF λpins s σ H a b d x y u v I ha hb ru rv hg=>by
 cases b with
 |tup ys=>
  obtain⟨h1,h2⟩:=bX hg;subst h2;rw[Nu,Nu]at h1;rw[cG]at hb;obtain⟨p,vs,e,g1,g2⟩:=hb;subst e;cases rv;obtain⟨its,r,t,_⟩:=I.tuple (pY.of g1);obtain⟨e,he,ea⟩:=zk (A:=X.A.in1) I h1.1.1 h1.2 ha ru (by rw[in1_units];omega) h1.1.2 g2 r;exact⟨_,rfl,λQ q=>SeqAt.in_tupleAt e (show s.heap.IsTuple p its.toArray from t) he (by rw[ea];exact q)⟩
 |lst ys=>
  obtain⟨h1,h2⟩:=bX hg;subst h2;rw[Nu,Nu]at h1;rw[cH]at hb;obtain⟨p,vs,e,g1,g2⟩:=hb;subst e;cases rv;obtain⟨its,r,t,_⟩:=I.list g1;obtain⟨e,he,ea⟩:=zk (A:=X.A.in1) I h1.1.1 h1.2 ha ru (by rw[in1_units];omega) h1.1.2 g2 r;exact⟨_,rfl,λQ q=>SeqAt.in_listAt e t.isList he (by rw[ea];exact q)⟩
 |_=>cases hg
theorem dG(hu:X.A.units+64<Rl):kY X (Rb .NotIn) (rD X.K ce):=oF λpins s σ H a b d x y u v I ha hb ru rv hg=>by
 cases b with
 |tup ys=>
  obtain⟨h1,h2⟩:=bX hg;subst h2;rw[Nu,Nu]at h1;rw[cG]at hb;obtain⟨p,vs,e,g1,g2⟩:=hb;subst e;cases rv;obtain⟨its,r,t,_⟩:=I.tuple (pY.of g1);obtain⟨e,he,ea⟩:=zk (A:=X.A.in1) I h1.1.1 h1.2 ha ru (by rw[in1_units];omega) h1.1.2 g2 r;exact⟨_,rfl,λQ q=>SeqAt.notIn_tupleAt e (show s.heap.IsTuple p its.toArray from t) he (by rw[ea];exact q)⟩
 |lst ys=>
  obtain⟨h1,h2⟩:=bX hg;subst h2;rw[Nu,Nu]at h1;rw[cH]at hb;obtain⟨p,vs,e,g1,g2⟩:=hb;subst e;cases rv;obtain⟨its,r,t,_⟩:=I.list g1;obtain⟨e,he,ea⟩:=zk (A:=X.A.in1) I h1.1.1 h1.2 ha ru (by rw[in1_units];omega) h1.1.2 g2 r;exact⟨_,rfl,λQ q=>SeqAt.notIn_listAt e t.isList he (by rw[ea];exact q)⟩
 |_=>cases hg
def Fx(p:Int->Int->D)(a b:D):Option D:=match a,b with
 |.int i,.int j=>some (p i j)
 |_,_=>none
def MF:=Fx λi j=>.bl (decide (i<j))
def MH:=Fx λi j=>.bl (decide (i<=j))
def Gk:=Fx λi j=>.bl (decide (j<i))
def MA:=Fx λi j=>.bl (decide (j<=i))
theorem ml{K:PD}{g:Int->Int->Bool}:eB K (CQ λi j=>.bl (g i j)) (Fx λi j=>.bl (g i j)):=λa b d x y O H Q hO hg ha hb q=>by
 cases a with
 |int i=>
  cases b with
  |int j=>cases hg;exact⟨i,j,fj.mp ha,fj.mp hb,q _ H (bE.refl H) (lG.mpr rfl)⟩
  |_=>cases hg
 |_=>cases hg
theorem rT{K:PD}{g:Int->Int->Int}:eB K (CQ λi j=>.int (g i j)) (Fx λi j=>.int (g i j)):=λa b d x y O H Q hO hg ha hb q=>by
 cases a with
 |int i=>
  cases b with
  |int j=>cases hg;exact⟨i,j,fj.mp ha,fj.mp hb,q _ H (bE.refl H) (fj.mpr rfl)⟩
  |_=>cases hg
 |_=>cases hg
def HJ(c:Int->Int->Bool)(p:Int->Int->Int)(a b:D):Option D:=match a,b with
 |.int i,.int j=>if c i j then some (.int (p i j))else none
 |_,_=>none
theorem jw{K:PD}{C:Int->Int->Prop}{c:Int->Int->Bool}{g:Int->Int->Int}(hc:∀i j,c i j=true->C i j):eB K (rI C λi j=>.int (g i j)) (HJ c g):=λa b d x y O H Q hO hg ha hb q=>by
 cases a with
 |int i=>
  cases b with
  |int j=>
   obtain⟨h1,h2⟩:=bX hg;subst h2;exact⟨i,j,fj.mp ha,fj.mp hb,hc i j h1,q _ H (bE.refl H) (fj.mpr rfl)⟩
  |_=>cases hg
 |_=>cases hg
def xX:=Fx λi j=>.int (i-j)
def oH:=HJ (λi j=>decide ((-(2^64)<i/\i<2^64)\/(-(2^64)<j/\j<2^64))) (·*·)
def Fa(_ j:Int):Prop:=0<j/\j<10^200
theorem bf:kY X (Ra .FloorDiv) (rI Fa λi j=>.int (i/j)):=Ij λi j _ _ _ _ _ hc q=>by
 have h1:(0:Int)<j:=hc.1;have h2:j<10^200:=hc.2;refine PyProof.Rows.floordiv_int ‹0› (by rw[M7 i ‹0›];exact q) (.inl (PyProof.noPylong_of_log2 ?_));have h3:j.natAbs<10^200:=by omega
 rw[Nat.log2_lt ‹0›];exact NK h3 (by decide +kernel)
def cW:=HJ (λ_ j=>decide (0<j/\j<10^200)) (·/·)
def cw:=HJ (λ_ j=>decide (0<j)) (·%·)
def jG:=HJ (λi j=>decide (0<=j/\j<=1000000/\i.natAbs<2^64)) λi j=>i^j.toNat
theorem p8{K:PD}:eB K (CQ λi j=>.int (i-j)) xX:=rT
theorem kF{K:PD}:eB K (rI GV λi j=>.int (i*j)) oH:=jw λi j h=>by have q:=of_decide_eq_true h;exact q
theorem bT{K:PD}:eB K (rI Fa λi j=>.int (i/j)) cW:=jw λi j h=>by have q:=of_decide_eq_true h;exact q
theorem bn{K:PD}:eB K (rI (λ_ j=>0<j) λi j=>.int (i%j)) cw:=jw λ_ _ h=>of_decide_eq_true h
theorem gx{K:PD}:eB K (rI JF λi j=>.int (i^j.toNat)) jG:=jw λi j h=>by have q:=of_decide_eq_true h;exact q
def Jm(K:PD):R2:=λx y H Q=>∃l b xs zs,x=.ref l/\y=.ref b/\n0 K H l xs/\n0 K H b zs/\xs.length+zs.length<=QO/\∀p,H p=none->Q (.ref p) (upd H p (.lst (xs++zs)))
theorem EA:kY X (Ra .Add) (Jm X.K):=by
 intro pins s σ H x y v u Q I rx ry h;obtain⟨l,b,xs,zs,rfl,rfl,hH,hB,hz,q⟩:=h;cases rx;cases ry;obtain⟨its,r,t1,_⟩:=I.list hH;obtain⟨its2,r2,t2,_⟩:=I.list hB;obtain⟨⟨c1,d1,dt1,sl1⟩,n1,ho,hc,hd,hdt⟩:=t1;obtain⟨⟨c2,d2,dt2,sl2⟩,n2,ho2,hc2,hd2,hdt2⟩:=t2;simp only at hc hd hdt hc2 hd2 hdt2;subst hc hd hdt hc2 hd2 hdt2;have z1:=r.length;have z2:=r2.length;refine Rr ⟨_,ho,rfl⟩ ⟨_,ho2,rfl⟩ noFill_list_add seq_list_add F.slot_list_add F.entry_list_add (F.args_list_add_2 _ _) (PyProof.Rows.list_addW l b its.toArray its2.toArray n1 n2 none none sl1 sl2 (by rw[M8,M8];omega)) ⟨ho,ho2,?_⟩;have ea:its.toArray++its2.toArray=(its++its2).toArray:=by simp
 rw[ea];exact⟨.ref _,_,I.lnew (t':=s.toks) (r.append r2) (by rw[Np];omega),rfl,q _ I.fresh⟩
def Gd(K:PD):R2:=λx y H Q=>∃a b xs ys,x=.ref a/\y=.ref b/\pY K H a xs/\pY K H b ys/\xs.length+ys.length<=QO/\
 (xs=[]->Q (.ref b) H)/\(xs≠[]->ys=[]->Q (.ref a) H)/\(xs≠[]->ys≠[]->∀p,H p=none->Q (.ref p) (upd H p (.tup (xs++ys))))
theorem B4:kY X (Ra .Add) (Gd X.K):=by
 intro pins s σ H x y v u Q I rx ry h;obtain⟨a,b,xs,ys,ex,ey,ha,hb,hz,q0,q1,q2⟩:=h;by_cases hx:xs=[]
 ·subst ex ey;cases rx;cases ry;obtain⟨its,r1,p1,_⟩:=I.tuple ha;obtain⟨its2,r2,p2,_⟩:=I.tuple hb;obtain⟨⟨cls,dd,data,sl⟩,ho,hc,n,hd⟩:=id p1;obtain⟨⟨cls2,dd2,data2,sl2⟩,ho2,hc2,n2,hd2⟩:=id p2;simp only at hc hd hc2 hd2;subst hc hd hc2 hd2;have e:its=[]:=r1.nil_iff.mpr hx;exact Rr ⟨_,ho,rfl⟩ ⟨_,ho2,rfl⟩ Rt Ru F.slot_tuple_add F.entry_tuple_add (F.args_tuple_add_2 _ _)
   (PyProof.Rows.tuple_addW0 a b its.toArray its2.toArray n n2 dd dd2 sl sl2 (by rw[e];rfl)) ⟨ho,ho2,⟨.ref b,H,I,rfl,q0 hx⟩⟩
 ·exact EC pins s σ H x y v u Q I rx ry ⟨a,b,xs,ys,ex,ey,ha,hb,hx,hz,q1 hx,q2 hx⟩
def bS(a b:D):Option D:=match a,b with
 |.int i,.int j=>some (.int (i+j))
 |.str x,.str y=>if small (x.length+y.length)then some (.str (x++y))else none
 |.lst xs,.lst ys=>if small (xs.length+ys.length)then some (.lst (xs++ys))else none
 |.tup xs,.tup ys=>if small (xs.length+ys.length)then some (.tup (xs++ys))else none
 |_,_=>none
theorem aW:kY X (Ra .Add) (rD X.K bS):=by
 intro pins s σ H x y u v Q I rx ry ⟨O,a,b,d,hO,ha,hb,hg,q⟩;cases a with
 |int i=>
  cases b with
  |int j=>
   cases hg;exact G5 pins s σ H x y u v Q I rx ry ⟨i,j,fj.mp ha,fj.mp hb,q _ H (bE.refl H) (fj.mpr rfl)⟩
  |_=>cases hg
 |str i=>
  cases b with
  |str j=>
   obtain⟨h1,h2⟩:=bX hg;subst h2;exact yg pins s σ H x y u v Q I rx ry ⟨i,j,fh.mp ha,fh.mp hb,eL h1,q _ H (bE.refl H) (fh.mpr rfl)⟩
  |_=>cases hg
 |lst xs=>
  cases b with
  |lst ys=>
   obtain⟨h1,h2⟩:=bX hg;subst h2;rw[cH]at ha hb;obtain⟨p,vs,ex,g1,g2⟩:=ha;obtain⟨p',vs',ey,g1',g2'⟩:=hb;refine EA pins s σ H x y u v Q I rx ry ⟨p,p',vs,vs',ex,ey,(aK H O).seq g1,(aK H O).seq g1',?_,λr hr=>?_⟩
   ·rw[<-g2.length,<-g2'.length];exact eL h1
   ·exact q _ _ (cf hr _) (dq hO hr (g2.append g2'))
  |_=>cases hg
 |tup xs=>
  cases b with
  |tup ys=>
   obtain⟨h1,h2⟩:=bX hg;subst h2;have da:=ha;have db:=hb;rw[cG]at ha hb;obtain⟨p,vs,ex,g1,g2⟩:=ha;obtain⟨p',vs',ey,g1',g2'⟩:=hb;have l1:=g2.length;have l2:=g2'.length;refine B4 pins s σ H x y u v Q I rx ry ⟨p,p',vs,vs',ex,ey,cq (aK H O) g1,cq (aK H O) g1',?_,λz=>?_,λz z'=>?_,λz z' r hr=>?_⟩
   ·rw[<-l1,<-l2];exact eL h1
   ·have e:xs=[]:=List.length_eq_zero_iff.mp (by rw[l1,z];rfl);rw[<-ey];refine q _ H (bE.refl H) ?_;rw[e,N4];exact db
   ·have e:ys=[]:=List.length_eq_zero_iff.mp (by rw[l2,z'];rfl);rw[<-ex];refine q _ H (bE.refl H) ?_;rw[e,Nf];exact da
   ·exact q _ _ (cf hr _) (fF hO hr (g2.append g2'))
  |_=>cases hg
 |_=>cases hg
def aA(a b:D):Option D:=match a,b with
 |.tup xs,.int i=>oa xs i
 |.lst xs,.int i=>oa xs i
 |.str x,.int i=>if small x.length then(oa x.cps.toList i).bind λc=>some (.str ⟨#[c]⟩)else none
 |_,_=>none
theorem y6{K:PD}{H:Hp}{ds:List D}{vs:List V}{i:Int}{d:D}(h:bj K H ds vs)(e:oa ds i=some d):∃v,oa vs i=some v/\cQ K H d v:=by
 unfold oa at e ⊢;obtain⟨j,e1,e2⟩:=bind_some e;rw[<-h.length,e1];exact h.get e2
theorem Lz:Iy X (rD X.K aA):=by
 intro value slice pins s σ H x y u v Q I rx ry ⟨O,a,b,d,hO,ha,hb,hg,q⟩ hsub;cases a with
 |tup xs=>
  cases b with
  |int i=>
   rw[cG]at ha;obtain⟨p,vs,ex,g1,g2⟩:=ha;obtain⟨w,e1,e2⟩:=y6 g2 hg;refine Gp value slice pins s σ H x y u v Q I rx ry ?_ hsub;exact⟨p,vs,i,w,ex,fj.mp hb,cq (aK H O) g1,e1,q w H (bE.refl H) e2⟩
  |_=>cases hg
 |lst xs=>
  cases b with
  |int i=>
   rw[cH]at ha;obtain⟨p,vs,ex,g1,g2⟩:=ha;obtain⟨w,e1,e2⟩:=y6 g2 hg;refine zK value slice pins s σ H x y u v Q I rx ry ?_ hsub;exact⟨p,vs,i,w,ex,fj.mp hb,(aK H O).seq g1,e1,q w H (bE.refl H) e2⟩
  |_=>cases hg
 |str z=>
  cases b with
  |int i=>
   have hg':(if small z.length then(oa z.cps.toList i).bind λc=>some (D.str ⟨#[c]⟩)else none)=some d:=hg;cases hs:small z.length with
   |false=>rw[hs]at hg';cases hg'
   |true=>
    rw[hs]at hg';obtain⟨c,e1,e2⟩:=bind_some hg';cases e2;refine GO value slice pins s σ H x y u v Q I rx ry ?_ hsub;exact⟨z,i,c,fh.mp ha,fj.mp hb,eL hs,e1,q _ H (bE.refl H) (fh.mpr rfl)⟩
  |_=>cases hg
 |_=>cases hg
theorem Mp{a b:QX}{fa fb:FX}{pos:Pos}(ha:FE X a fa)(hb:FE X b fb)(hs:oA b):FE X (.Subscript a b pos) (f2 aA fa fb):=
 PE.weak (Fq Lz ha hb hs) (vF au)
def cutD{α:Type}(xs:List α)(lo hi:Option Int):List α:=(xs.drop (HT.sIx xs.length 0 lo)).take (HT.sIx xs.length xs.length hi-HT.sIx xs.length 0 lo)
theorem sN{M:Model}{A:QT}{E:QI->QU->Prop}{s:QU}{t:QL}{items:Array QI}{Q:Bool->QU->Prop}(ht:Qu s.heap t items)(h:Q true s):QW M A (Builtin.Tuple.tupleIsExact (.ref t)) Q E s:=by
 unfold Builtin.Tuple.tupleIsExact;refine Q5 (RB ht.typeIs ?_);exact Q4 h
theorem iD{prog:QK}{w:QJ}{A:QT}{E:QI->QU->Prop}{s:QU}{t sl:QL}{items:Array QI}{vl vu:QI}{lo hi:Option Int}{Q:QI->QU->Prop}(ht:Qu s.heap t items)(hs:s.heap.IsSliceOf sl vl vu .none)(pl:Rv vl lo)(pu:Rv vu hi)
  (hw:HT.sIx items.size 0 lo=0/\HT.sIx items.size items.size hi=items.size) (h:Q (.ref t) s):QW (model prog w) A (getItem (.ref t) (.ref sl)) Q E s:=by
 obtain⟨os,hos,hcs,hds⟩:=id hs;have hTs:s.TypeIs (.ref sl) "slice":=⟨os,hos,hcs⟩
 unfold getItem
 try with_reducible refine Ry ?_
 first|refine Q5 (Q4 ?_)|skip
 refine Q5 (wpAny_sequenceKey ht.typeIs (by decide) ?_);refine Q5 (Rz (name:=Str.ofString "__getitem__") ht.typeIs Qs
  (RA Qs ht.typeIs PyProof.Rows.entry_tuple_getitem ?_ (PyProof.Rows.args_tuple_getitem _ _)))
 show QW _ _ (Builtin.Tuple.tupleItemsOf (.ref t) >>= _) _ _ s;refine Q5 (PyProof.Rows.tupleItemsOf_ ht ?_);refine Q5 (RB hTs ?_);rw[if_pos (by decide)];refine Q5 (HT.pK hs pl pu ?_);have hyes:(((HT.sIx items.size 0 lo:Nat):Int)==0&&(1:Int)==1&&(HT.sIx items.size items.size hi-HT.sIx items.size 0 lo)==items.size)=true:=by
  rw[hw.1,hw.2];simp
 show QW _ _ (if(((HT.sIx items.size 0 lo:Nat):Int)==0&&(1:Int)==1&&(HT.sIx items.size items.size hi-HT.sIx items.size 0 lo)==items.size)=true then _ else _) _ _ s;rw[if_pos hyes];refine Q5 (sN ht ?_);rw[if_pos rfl]
 first
  |exact Q5 (RL (Q4 ⟨_,rfl,Q4 h⟩))
  |exact Q5 (RL (Q5 (Q4 (Q4 ⟨_,rfl,Q4 h⟩))))
def sF(a:D)(lo hi:Option Int):Option D:=match a with
 |.lst xs=>some (.lst (cutD xs lo hi))
 |.tup xs=>some (.tup (cutD xs lo hi))
 |.str x=>if small x.length then some (.str ⟨(cutD x.cps.toList lo hi).toArray⟩)else none
 |_=>none
theorem Fw(v:Option Int)(d n:Nat)(hd:d<=n):(match v with|none=>(d:Int)|some i=>if(1:Int)>0 then max 0 (min (if i<0 then i+(n:Int)else i) (n:Int))else max (-1) (min (if i<0 then i+(n:Int)else i) ((n:Int)-1)))=((HT.sIx n d v:Nat):Int):=by
 cases v with
 |none=>rfl
 |some i=>
  show(if(1:Int)>0 then max 0 (min (if i<0 then i+(n:Int)else i) (n:Int))else max (-1) (min (if i<0 then i+(n:Int)else i) ((n:Int)-1)))=(((if i<0 then(i+(n:Int)).toNat else min i.toNat n):Nat):Int)
  rw[if_pos (by decide)];by_cases h:i<0
  ·rw[if_pos h,if_pos h];omega
  ·rw[if_neg h,if_neg h];omega
theorem Cr(lo hi:Option Int)(n:Nat):Builtin.Str.strSliceIndices lo hi 1 n=(List.range (HT.sIx n n hi-HT.sIx n 0 lo)).map λk=>HT.sIx n 0 lo+k:=by
 have e1:=Fw lo 0 n (Nc _);have e2:=Fw hi n n (M3 _);have e:Builtin.Str.strSliceIndices lo hi 1 n=sliceRange ((HT.sIx n 0 lo:Nat):Int) ((HT.sIx n n hi:Nat):Int) 1:=by
  rw[<-e1,<-e2];cases lo<;>cases hi<;>rfl
 rw[e];unfold sliceRange;dsimp only;rw[if_pos (by decide:(1:Int)>0)];have e3:(if((HT.sIx n 0 lo:Nat):Int)<((HT.sIx n n hi:Nat):Int)then(((HT.sIx n n hi:Nat):Int)-((HT.sIx n 0 lo:Nat):Int)+1-1)/1 else 0:Int).toNat=HT.sIx n n hi-HT.sIx n 0 lo:=by
  rw[Int.ediv_one];split<;>omega
 rw[e3];refine N5 λk _=>?_;omega
theorem BE{α:Type}(l:List α)(a:Nat):∀n:Nat,((List.range n).map λk=>a+k).filterMap (λi=>l[i]?)=(l.drop a).take n
 |0=>by simp
 |n+1=>by
  rw[List.range_succ,N6,List.filterMap_append,BE l a n,List.take_add_one,List.getElem?_drop];cases e:l[a+n]?<;>simp[e]
theorem Be(x:Str)(lo hi:Option Int):Txt.slice x lo hi=⟨(cutD x.cps.toList lo hi).toArray⟩:=by
 have hl:x.cps.toList.length=x.length:=by simp[Str.length]
 have pick:(Builtin.Str.strSliceIndices lo hi 1 x.length).filterMap (x.cps[·]?)=cutD x.cps.toList lo hi:=by
  rw[Cr];have q:=BE x.cps.toList (HT.sIx x.length 0 lo) (HT.sIx x.length x.length hi-HT.sIx x.length 0 lo);unfold cutD;rw[hl,<-q];congr 1;funext i;simp
 unfold Txt.slice;split
 ·rename_i h;have h':(Builtin.Str.strSliceIndices lo hi 1 x.length).length=x.length:=by simpa using h
  rw[Cr,Nq,N7]at h';have h1:=HT.GA x.length x.length (M3 _) hi;have z1:HT.sIx x.length 0 lo=0\/x.length=0:=by omega
  have e:cutD x.cps.toList lo hi=x.cps.toList:=by
   unfold cutD;rw[hl,h'];rcases z1 with z1|z1
   ·rw[z1,NV,<-hl,N8]
   ·have:x.cps.toList=[]:=List.length_eq_zero_iff.mp (by rw[hl];exact z1)
    rw[this];simp
  rw[e]
 ·rw[pick]
def Ld(K:PD):V->Option Int->Option Int->Hp->VK->Prop:=λx lo hi H Q=>∃O a d,dW H O/\cQ K (hid H O) a x/\sF a lo hi=some d/\∀v H',bE H H'->cQ K (hid H' O) d v->Q v H'
theorem bj.cut{K:PD}{H:Hp}{ds:List D}{vs:List V}(h:bj K H ds vs)(lo hi:Option Int):bj K H (cutD ds lo hi) (xc vs lo hi):=by
 unfold cutD xc;rw[h.length];exact(h.drop _).take _
theorem Lb:JQ X (Ld X.K):=by
 intro pins s σ H x v vl vu lo hi sl Q I rx hs pl pu ⟨O,a,d,hO,ha,hg,q⟩;cases a with
 |lst xs=>
  cases hg;rw[cH]at ha;obtain⟨p,vs,ex,g1,g2⟩:=ha;exact D6 pins s σ H x v vl vu lo hi sl Q I rx hs pl pu ⟨p,vs,ex,(aK H O).seq g1,λr hr=>q _ _ (cf hr _) (dq hO hr (g2.cut lo hi))⟩
 |tup xs=>
  cases hg;have da:=ha;rw[cG]at ha;obtain⟨p,vs,ex,g1,g2⟩:=ha;by_cases hw:HT.sIx vs.length 0 lo=0/\HT.sIx vs.length vs.length hi=vs.length
  ·subst ex;cases rx;obtain⟨its,r,ht,hz⟩:=I.tuple (cq (aK H O) g1);have hlen:its.toArray.size=vs.length:=(by rw[M8];exact r.length.symm);refine⟨"tuple",_,PyProof.Rows.slot_tuple_getitem.lookup,ht.typeIs,iD ht hs pl pu (by rw[hlen];exact hw) ⟨.ref p,H,I,rfl,q _ H (bE.refl H) ?_⟩⟩;have e:cutD xs lo hi=xs:=by
    unfold cutD;rw[g2.length,hw.1,hw.2,N9,NV,<-g2.length,N8]
   rw[e];exact da
  ·exact Gi pins s σ H x v vl vu lo hi sl Q I rx hs pl pu ⟨p,vs,ex,cq (aK H O) g1,hw,λr hr=>q _ _ (cf hr _) (fF hO hr (g2.cut lo hi))⟩
 |str z=>
  obtain⟨h1,h2⟩:=bX hg;subst h2;rw[fh]at ha;subst ha;obtain⟨t,rfl⟩:=rx;have fin:∀t' tk,EP X pins σ Q (.str (Txt.slice z lo hi) t') {s with toks:=tk}:=λt' tk=>by
   rw[Be];exact⟨.str _,H,I.tok _,⟨_,rfl⟩,q _ H (bE.refl H) (fh.mpr rfl)⟩
  obtain⟨os,hos,hcs,hds⟩:=id hs;have hz:=eL h1;refine⟨"str",_,F.slot_str_getitem.lookup,typeIs_str _ _ _,?_⟩;cases pl with
  |none=>
   cases pu with
   |none=>exact RM (l:=none) (u:=none) (st:=none) ⟨os,hos,hcs,hds⟩ rfl (RN ⟨MS (Txt.slice_le z _ _) hz,λt' k=>fin t' k⟩)
   |int j tj=>exact RM (l:=none) (u:=some (j,tj)) (st:=none) ⟨os,hos,hcs,hds⟩ rfl (RN ⟨MS (Txt.slice_le z _ _) hz,λt' k=>fin t' k⟩)
  |int i ti=>
   cases pu with
   |none=>exact RM (l:=some (i,ti)) (u:=none) (st:=none) ⟨os,hos,hcs,hds⟩ rfl (RN ⟨MS (Txt.slice_le z _ _) hz,λt' k=>fin t' k⟩)
   |int j tj=>exact RM (l:=some (i,ti)) (u:=some (j,tj)) (st:=none) ⟨os,hos,hcs,hds⟩ rfl (RN ⟨MS (Txt.slice_le z _ _) hz,λt' k=>fin t' k⟩)
 |_=>cases hg
def aG:av->R (Option Int):=λ_=>.ok none
def yi:D->Option (Option Int)
 |.int i=>some (some i)
 |_=>none
def bp(f:FX):av->R (Option Int):=λρ=>(f ρ).bind λd=>rO (yi d)
def Mx(X:Cx)(F:av->R (Option Int)):TO:=λσ H Q=>∃O ρ,d9 X.K O H ρ σ/\i7 X σ O H (F ρ) λo=>∀H',bE H H'->Q o H'
def FO(X:Cx)(e:Option QX)(F:av->R (Option Int)):Prop:=PO X e (Mx X F)
theorem Kb:FO X none aG:=λpins s σ H Q I ⟨O,ρ,E,q⟩=>EF pins s σ H Q I (q H (bE.refl H))
theorem JY{e:QX}{f:FX}(h:FE X e f):FO X (some e) (bp f):=λpins s σ H Q I ⟨O,ρ,E,hF⟩=>
 DN h pins s σ H Q I ⟨O,ρ,E,(i7.bind hF).imp λd hF v H1 s1 d1=>by
  obtain⟨o,e,q⟩:=i7.rO hF;cases d with
  |int i=>
   cases e;exact⟨i,fj.mp d1,q H1 s1⟩
  |_=>cases e⟩
def aP(f:FX)(l h:av->R (Option Int)):FX:=λρ=>(f ρ).bind λa=>(l ρ).bind λlo=>(h ρ).bind λhi=>rO (sF a lo hi)
theorem IL{e:QX}{f:FX}{l h:av->R (Option Int)}{lo hi:Option QX}{p2 pos:Pos}(he:FE X e f)(hl:FO X lo l)(hh:FO X hi h):FE X (.Subscript e (.Slice lo hi none p2) pos) (aP f l h):=
 PE.weak (B9 Lb he hl hh) λσ H Q ⟨O,ρ,E,hF⟩=>⟨O,ρ,E,(i7.bind hF).imp λa hF x H1 s1 d1=>⟨O,ρ,E.same s1,((i7.bind hF).mono s1).imp λlo' hF H2 s2=>⟨O,ρ,E.same (s1.trans s2),((i7.bind hF).mono (s1.trans s2)).imp λhi' hF H3 s3=>by
  obtain⟨d,e,q⟩:=i7.rO hF;exact⟨O,a,d,E.all.same ((s1.trans s2).trans s3),d1.mono (cy (s2.trans s3)),e,λv H4 s4 d4=>q v H4 (((s1.trans s2).trans s3).trans s4) d4⟩⟩⟩⟩
end
end TG
namespace TG
open PySem PySem.Spec L2
variable[bd]
def xP(K:PD)(g:List D->Option D):List V->Hp->VK->Prop:=λxs H Q=>∃O ds d,dW H O/\bj K (hid H O) ds xs/\g ds=some d/\∀v H',bE H H'->cQ K (hid H' O) d v->Q v H'
theorem rP{K:PD}{g:List D->Option D}:zy K (xP K g) g:=λds d xs O H Q hO hg hd q=>⟨O,ds,d,hO,hd,hg,q⟩
section
variable{X:Cx}{x:Str}{p pos:Pos}{e:QX}{es:List QX}{id T:String}{g:List D->Option D}{f:av->R (List D)}
theorem Iz(hc:dZ X (.builtin id) (xP X.K g))(hg:Gl X x)(hm:X.mg x=none)(hv:QS x=some (.builtin id))(ha:FA X (e::es) f)(hn:x≠"__name__":=by decide)(hdb:(x==("__debug__":Str))=false:=by decide)
  (hns:(e::es).all noStar=true:=by rfl):FE X (.Call (.Name x p) (e::es) [] pos) (fL g f):=
 PE.weak (wg hc hg hm hv ha hn hdb (fg (Nu _ _ ▸ hns).1) (iZ (Nu _ _ ▸ hns).2)) (CA rP)
theorem HP(hc:dZ X (.type T) (xP X.K g))(hg:Gl X x)(hm:X.mg x=none)(hv:QS x=some (.type T))(ha:FA X (e::es) f)(hn:x≠"__name__":=by decide)(hdb:(x==("__debug__":Str))=false:=by decide)
  (hns:(e::es).all noStar=true:=by rfl):FE X (.Call (.Name x p) (e::es) [] pos) (fL g f):=
 PE.weak (Ao hc hg hm hv ha hn hdb (fg (Nu _ _ ▸ hns).1) (iZ (Nu _ _ ▸ hns).2)) (CA rP)
def fw:List D->Option D
 |[.lst xs]=>some (.int xs.length)
 |[.tup xs]=>some (.int xs.length)
 |[.str x]=>if small x.length then some (.int x.length)else none
 |_=>none
theorem bJ:dZ X (.builtin "len") (xP X.K fw):=by
 intro pins s σ H xs us Q I r ⟨O,ds,d,hO,hd,hg,q⟩;unfold fw at hg;split at hg
 ·rename_i ys;cases hg;obtain⟨v,ev,h1⟩:=hd.one;rw[cH]at h1;obtain⟨p,vs,ep,g1,g2⟩:=h1;exact oE pins s σ H xs us Q I r ⟨p,vs,by rw[ev,ep],.inl ((aK H O).seq g1),q _ H (bE.refl H) (fj.mpr (by rw[g2.length]))⟩
 ·rename_i ys;cases hg;obtain⟨v,ev,h1⟩:=hd.one;rw[cG]at h1;obtain⟨p,vs,ep,g1,g2⟩:=h1;exact oE pins s σ H xs us Q I r ⟨p,vs,by rw[ev,ep],.inr (cq (aK H O) g1),q _ H (bE.refl H) (fj.mpr (by rw[g2.length]))⟩
 ·rename_i z;obtain⟨h1,h2⟩:=bX hg;subst h2;obtain⟨v,ev,h1'⟩:=hd.one;exact vN pins s σ H xs us Q I r ⟨z,by rw[ev,fh.mp h1'],eL h1,q _ H (bE.refl H) (fj.mpr rfl)⟩
 ·cases hg
def cC:List D->Option D
 |[.lst xs]=>some (.tup xs)
 |[.tup xs]=>some (.tup xs)
 |_=>none
theorem cj:dZ X (.type "tuple") (xP X.K cC):=by
 intro pins s σ H xs us Q I r ⟨O,ds,d,hO,hd,hg,q⟩;unfold cC at hg;split at hg
 ·rename_i ys;cases hg;obtain⟨v,ev,h1⟩:=hd.one;rw[cH]at h1;obtain⟨p,vs,ep,g1,g2⟩:=h1;exact nE pins s σ H xs us Q I r ⟨p,vs,by rw[ev,ep],.inl ⟨(aK H O).seq g1,λl hl=>q _ _ (cf hl _) (fF hO hl g2)⟩⟩
 ·rename_i ys;cases hg;obtain⟨v,ev,h1⟩:=hd.one;have h0:=h1;rw[cG]at h1;obtain⟨p,vs,ep,g1,g2⟩:=h1;rw[ep]at h0;exact nE pins s σ H xs us Q I r ⟨p,vs,by rw[ev,ep],.inr ⟨cq (aK H O) g1,q _ H (bE.refl H) h0⟩⟩
 ·cases hg
def zb:List D->Option D
 |[.lst xs]=>some (.lst xs)
 |[.tup xs]=>some (.lst xs)
 |_=>none
theorem yd:dZ X (.type "list") (xP X.K zb):=by
 intro pins s σ H xs us Q I r ⟨O,ds,d,hO,hd,hg,q⟩;unfold zb at hg;split at hg
 ·rename_i ys;cases hg;obtain⟨v,ev,h1⟩:=hd.one;rw[cH]at h1;obtain⟨p,vs,ep,g1,g2⟩:=h1;exact oO pins s σ H xs us Q I r ⟨p,vs,by rw[ev,ep],.inl ((aK H O).seq g1),λl hl=>q _ _ (cf hl _) (dq hO hl g2)⟩
 ·rename_i ys;cases hg;obtain⟨v,ev,h1⟩:=hd.one;rw[cG]at h1;obtain⟨p,vs,ep,g1,g2⟩:=h1;exact oO pins s σ H xs us Q I r ⟨p,vs,by rw[ev,ep],.inr (cq (aK H O) g1),λl hl=>q _ _ (cf hl _) (dq hO hl g2)⟩
 ·cases hg
def nM:List D->Option D
 |[.int i,.int j]=>some (.int (if j>i then j else i))
 |_=>none
def qg:List D->Option D
 |[.int i,.int j]=>some (.int (if j<i then j else i))
 |_=>none
def zJ:List D->Option D
 |[.int i]=>some (.int i)
 |[.bl k]=>some (.int (if k then 1 else 0))
 |_=>none
theorem ki(hc:X.calm=true):dZ X (.builtin "max") (xP X.K nM):=by
 intro pins s σ H xs us Q I r ⟨O,ds,d,hO,hd,hg,q⟩;unfold nM at hg;split at hg
 ·rename_i i j;cases hg;obtain⟨v,w,ev,h1,h2⟩:=hd.two;exact Bo hc pins s σ H xs us Q I r ⟨i,j,by rw[ev,fj.mp h1,fj.mp h2],q _ H (bE.refl H) (fj.mpr rfl)⟩
 ·cases hg
theorem nX(hc:X.calm=true):dZ X (.builtin "min") (xP X.K qg):=by
 intro pins s σ H xs us Q I r ⟨O,ds,d,hO,hd,hg,q⟩;unfold qg at hg;split at hg
 ·rename_i i j;cases hg;obtain⟨v,w,ev,h1,h2⟩:=hd.two;exact Ax hc pins s σ H xs us Q I r ⟨i,j,by rw[ev,fj.mp h1,fj.mp h2],q _ H (bE.refl H) (fj.mpr rfl)⟩
 ·cases hg
theorem xZ:dZ X (.type "int") (xP X.K zJ):=by
 intro pins s σ H xs us Q I r ⟨O,ds,d,hO,hd,hg,q⟩;unfold zJ at hg;split at hg
 ·rename_i i;cases hg;obtain⟨v,ev,h1⟩:=hd.one;exact ui pins s σ H xs us Q I r (.inl ⟨i,by rw[ev,fj.mp h1],q _ H (bE.refl H) (fj.mpr rfl)⟩)
 ·rename_i k;cases hg;obtain⟨v,ev,h1⟩:=hd.one;exact ui pins s σ H xs us Q I r (.inr ⟨k,by rw[ev,lG.mp h1],q _ H (bE.refl H) (fj.mpr rfl)⟩)
 ·cases hg
def GX:D->String
 |.non=>"NoneType"
 |.bl _=>"bool"
 |.int _=>"int"
 |.str _=>"str"
 |.tup _=>"tuple"
 |.lst _=>"list"
 |.dct _ _=>"dict"
 |_=>""
def Ew(T:String)(d:D):Bool:=match d with
 |.bl _=>T=="bool"||T=="int"
 |.non=>T=="NoneType"
 |.int _=>T=="int"
 |.str _=>T=="str"
 |.tup _=>T=="tuple"
 |.lst _=>T=="list"
 |.dct _ _=>T=="dict"
 |_=>false
def xB(K:PD)(T:String):Prop:=∀d:D,top d=true->P6 K (.type (GX d)) (.type T)=some (Ew T d)
def Kn(K:PD)(T:String):List V->Hp->VK->Prop:=λxs H Q=>∃O x d,xs=[x,.ty T]/\top d=true/\cQ K (hid H O) d x/\Q (.bl (Ew T d)) H
theorem Cp(ok:xB X.K T):dZ X (.builtin "isinstance") (Kn X.K T):=by
 intro pins s σ H xs us Q I r ⟨O,x,d,ex,td,hd,q⟩;subst ex;obtain⟨u,w',rfl,rx,rt⟩:=vals2 r;cases rt;have e:=ok d td;have fin:∀tk,EP X pins σ Q (.bool (Ew T d)) {s with toks:=tk}:=λtk=>⟨.bl _,H,I.tok _,rfl,q⟩
 cases fD I td (hd.mono (aK H O)) rx with
 |non=>exact P7 PySem.W.kitx_none I.kIn True.intro e (λz=>nomatch z) fin
 |bl b=>exact P7 PySem.W.kitx_bool I.kIn True.intro e (λz=>nomatch z) fin
 |int i t=>exact P7 PySem.W.kitx_int I.kIn True.intro e (λz=>nomatch z) fin
 |str y t=>exact P7 PySem.W.kitx_str I.kIn True.intro e (λz=>nomatch z) fin
 |tup h rv t=>
  obtain⟨o,h1,h2,_⟩:=t;exact P7 PySem.W.kitx_tuple I.kIn ⟨o,h1,h2⟩ e (λz=>nomatch z) fin
 |lst h rv t=>
  obtain⟨o,h1,h2,_⟩:=t;exact P7 PySem.W.kitx_list I.kIn ⟨o,h1,h2⟩ e (λz=>nomatch z) fin
theorem CO:QS "isinstance"=some (.builtin "isinstance"):=by first|rfl|decide +kernel
def nU(T:String)(d:D):Option D:=if top d then some (.bl (Ew T d))else none
def o8(T:String)(f:FX):FX:=f1 (nU T) f
theorem Lw{f:FX}{xT:Str}{p2:Pos}(ok:xB X.K T)(hg:Gl X "isinstance")(hm:X.mg "isinstance"=none)(hgT:Gl X xT)(hmT:X.mg xT=none)(hvT:QS xT=some (.type T))(he:FE X e f)
  (hn2:xT≠"__name__":=by decide) (hd2:(xT==("__debug__":Str))=false:=by decide)
  (hns:noStar e=true:=by rfl):
  FE X (.Call (.Name "isinstance" p) [e,.Name xT p2] [] pos) (o8 T f):=
 PE.weak (wg (Cp ok) hg hm CO (mC he (mC (Ey (v:=.ty T) hgT hmT hvT rfl hn2 hd2) pI (fg rfl)) (fg hns)) (by decide) (by decide) (fg hns) (iZ rfl)) λσ H Q ⟨O,ρ,E,hF⟩=>⟨O,ρ,E,(i7.bind hF).imp λa hF v H1 s1 d1=>by
  obtain⟨d,e,q⟩:=i7.rO hF;obtain⟨h1,h2⟩:=bX e;subst h2;exact⟨O,v,a,rfl,h1,d1,q _ H1 s1 (lG.mpr rfl)⟩⟩
end
section
variable{X:Cx}{a:QX}{f:FX}{pos:Pos}
def isNon:D->Bool
 |.non=>true
 |_=>false
def Ln(d:D):Option D:=some (.bl (isNon d))
def IZ(d:D):Option D:=some (.bl (!isNon d))
def KA(f:FX):FX:=f1 Ln f
def Io(f:FX):FX:=f1 IZ f
theorem IM(h:FE X a f)(he:∀whole,isTrue a X.env whole=(do let v<-whole;standAt a.pos;holding [v] (truthy v)):=by intro _;rfl):FT X a (eX f):=PT.weak (Bu h he) λσ H Q ⟨O,ρ,E,hF⟩=>⟨O,ρ,E,(i7.bind hF).imp λd hF x H1 s1 d1=>by
 obtain⟨r,hF,q⟩:=i7.rO hF;refine⟨r,?_,q H1 s1⟩;cases d with
 |non=>cases hF;rw[kN.mp d1];rfl
 |bl b=>cases hF;rw[lG.mp d1];rfl
 |int i=>cases hF;rw[fj.mp d1];rfl
 |str y=>
  obtain⟨hz,e⟩:=bX hF;subst e;rw[fh.mp d1];refine⟨eL hz,?_⟩;show(y.length !=0)=((y.length:Int) !=0)
  cases y.length<;>rfl
 |tup xs=>
  cases hF;obtain⟨p,vs,e,g1,g2⟩:=cG.mp d1;rw[e];refine .inr (.inl ⟨vs,cq (aK H1 O) g1,?_⟩);have l:=g2.length;cases xs<;>cases vs<;>first|rfl|(simp at l)
 |lst xs=>
  cases hF;obtain⟨p,vs,e,g1,g2⟩:=cH.mp d1;rw[e];refine .inl ⟨vs,(aK H1 O).seq g1,?_⟩;have l:=g2.length;cases xs<;>cases vs<;>first|rfl|(simp at l)
 |_=>cases hF⟩
end
def Walk(K:PD)(Hd:Hp)(J:It)(ds:List D):Prop:=
 ∀(Hn:Hp)(O':List QL)(i:Nat),dW Hn O'->bE Hd (hid Hn O')->(∀d,ds[i]?=some d->J.go i Hn/\∀x H2,J.yld i Hn x H2->bE Hn H2/\cQ K (hid H2 O') d x)/\(i=ds.length->J.stop i Hn)
def K9(X:Cx)(G:av->R (List D)):TI:=λσ H RR=>∃O ρ,d9 X.K O H ρ σ/\i7 X σ O H (G ρ) λds=>∀J H1,bE H H1->Walk X.K (hid H1 O) J ds->RR J H1
def FI(X:Cx)(tg iter:QX)(G:av->R (List D)):Prop:=PI X tg iter (K9 X G)
def rz:D->Option (List D)
 |.lst xs=>some xs
 |.tup xs=>some xs
 |_=>none
def bc(f:FX):av->R (List D):=λρ=>(f ρ).bind λd=>rO (rz d)
section
variable{X:Cx}{tg:QX}
theorem AQ{K:PD}{Hd:Hp}{a:QL}{ds:List D}{vs:List V}(h:n0 K Hd a vs)(g:bj K Hd ds vs):Walk K Hd (KU K a) ds:=λHn O' i hO s=>
  have s':bE Hd Hn:=s.trans (aK Hn O')
  ⟨fun d e=>by
    obtain⟨v,ev,dv⟩:=g.get e;refine⟨⟨vs,v,s'.seq h,ev⟩,λx H2 ⟨e2,y⟩=>?_⟩;have q:=y vs (s'.seq h);rw[ev]at q;cases q;subst e2;exact⟨bE.refl _,dv.mono s⟩,
   λhl=>⟨vs,s'.seq h,by rw[<-g.length];exact Nb hl.symm⟩⟩
theorem CH{K:PD}{Hd:Hp}{a:QL}{ds:List D}{vs:List V}(h:Hd a=some (.tup vs))(g:bj K Hd ds vs):Walk K Hd (KI K a) ds:=λHn O' i hO s=>
  have s':bE Hd Hn:=s.trans (aK Hn O')
  ⟨fun d e=>by
    obtain⟨v,ev,dv⟩:=g.get e;refine⟨⟨vs,v,cq s' h,ev⟩,λx H2 ⟨e2,y⟩=>?_⟩;have q:=y vs (cq s' h);rw[ev]at q;cases q;subst e2;exact⟨bE.refl _,dv.mono s⟩,
   λhl=>⟨vs,cq s' h,by rw[<-g.length];exact Nb hl.symm⟩⟩
theorem LJ{e:QX}{f:FX}(h:FE X e f):FI X tg e (bc f):=by
 intro pins s σ H R I ⟨O,ρ,E,hG⟩;have hG':=i7.bind hG;cases hf:f ρ with
 |error z=>exact zi h pins s σ H R I ⟨O,ρ,E,by rw[hf]at hG' ⊢;cases z with|none=>exact hG'.elim|some x=>exact hG'⟩
 |ok d=>
  rw[hf]at hG';obtain⟨ds,e1,q⟩:=i7.rO (α:=List D) (o:=rz d) hG';cases d with
  |lst xs=>
   cases e1;refine zi h pins s σ H R I ⟨O,ρ,E,?_⟩;rw[hf];refine λv H1 s1 d1=>?_;obtain⟨p,vs,ev,g1,g2⟩:=cH.mp d1;exact⟨p,ev,⟨vs,(aK H1 O).seq g1⟩,q _ H1 s1 (AQ g1 g2)⟩
  |tup xs=>
   cases e1;refine Gw h pins s σ H R I ⟨O,ρ,E,?_⟩;rw[hf];refine λv H1 s1 d1=>?_;obtain⟨p,vs,ev,g1,g2⟩:=cG.mp d1;exact⟨p,ev,⟨vs,cq (aK H1 O) g1⟩,q _ H1 s1 (CH g1 g2)⟩
  |_=>cases e1
def dM(lo:Int)(n:Nat):List D:=(List.range n).map λ(k:Nat)=>D.int (lo+(k:Int))
theorem sZ(lo:Int)(n:Nat):(dM lo n).length=n:=by unfold dM;rw[Nq,N7]
theorem sd{K:PD}{Hd:Hp}(lo:Int)(n:Nat):Walk K Hd (JH lo n) (dM lo n):=λHn O' i hO s=>
  ⟨fun d e=>by
    unfold dM at e;rw[Nm]at e;cases hi:(List.range n)[i]? with
    |none=>rw[hi]at e;cases e
    |some k=>
      rw[hi]at e;cases e;have hlt:i<n:=by
        have:=(List.getElem?_eq_some_iff.mp hi).1
        rwa [N7]at this
      have ek:k=i:=by
        rw[Oa hlt]at hi;exact(Option.some.inj hi).symm
      subst ek;exact⟨hlt,λx H2 ⟨e1,e2⟩=>by subst e1;exact⟨bE.refl _,fj.mpr e2⟩⟩,
   λhl=>by rw[sZ]at hl;exact Nb hl.symm⟩
def okR(j:Int):Bool:=decide (-(2^62)<=j/\j<2^62)
def kI:List D->Option (List D)
 |[.int j]=>if okR j then some (dM 0 j.toNat)else none
 |_=>none
def oQ:List D->Option (List D)
 |[.int i,.int j]=>if okR i&&okR j then some (dM i (j-i).toNat)else none
 |_=>none
def fM(f:av->R (List D)):av->R (List D):=λρ=>(f ρ).bind λds=>rO (kI ds)
def oG(f:av->R (List D)):av->R (List D):=λρ=>(f ρ).bind λds=>rO (oQ ds)
theorem HR{a:QX}{f:av->R (List D)}{p pos:Pos}(hg:Gl X "range")(hm:X.mg "range"=none)(ha:FA X [a] f)(hs:QY [a] X.env=[(false,eval a X.env)]:=by rfl):FI X tg (.Call (.Name "range" p) [a] [] pos) (fM f):=by
 intro pins s σ H R I ⟨O,ρ,E,hG⟩;refine Bi hg hm ha hs pins s σ H R I ⟨O,ρ,E,(i7.bind hG).imp λes hG' vs H1 s1 d1=>?_⟩;clear hG;obtain⟨ds,hG,q⟩:=i7.rO hG';clear hG';unfold kI at hG;split at hG
 ·rename_i j;obtain⟨h1,h2⟩:=bX hG;subst h2;obtain⟨j1,j2⟩:=of_decide_eq_true h1;obtain⟨v,ev,dv⟩:=d1.one;exact⟨j,by rw[ev,fj.mp dv],j1,j2,q _ H1 s1 (sd 0 _)⟩
 ·cases hG
theorem HQ{a b:QX}{f:av->R (List D)}{p pos:Pos}(hg:Gl X "range")(hm:X.mg "range"=none)(ha:FA X [a,b] f)(hs:QY [a,b] X.env=[(false,eval a X.env),(false,eval b X.env)]:=by rfl)(hs2:QY [b] X.env=[(false,eval b X.env)]:=by rfl):FI X tg (.Call (.Name "range" p) [a,b] [] pos) (oG f):=by
 intro pins s σ H R I ⟨O,ρ,E,hG⟩;refine Ad hg hm ha hs hs2 pins s σ H R I ⟨O,ρ,E,(i7.bind hG).imp λes hG' vs H1 s1 d1=>?_⟩;clear hG;obtain⟨ds,hG,q⟩:=i7.rO hG';clear hG';unfold oQ at hG;split at hG
 ·rename_i i j;obtain⟨h1,h2⟩:=bX hG;subst h2;rw[Nu]at h1;obtain⟨i1,i2⟩:=of_decide_eq_true h1.1;obtain⟨j1,j2⟩:=of_decide_eq_true h1.2;obtain⟨v,w,ev,dv,dw⟩:=d1.two;exact⟨i,j,by rw[ev,fj.mp dv,fj.mp dw],⟨i1,i2,j1,j2⟩,q _ H1 s1 (sd i _)⟩
 ·cases hG
end
abbrev GF:=D->av->Option av
def JN(K:PD)(g:GF):TG:=λv σ H Q=>∃O ρ d ρ',d9 K O H ρ σ/\cQ K (hid H O) d v/\g d ρ=some ρ'/\∀σ',d9 K O H ρ' σ'->(∀(i:Nat) x,ρ'[i]?=some (some x)->(∀d,x≠.val d)->σ'[i]?=σ[i]?/\ρ[i]?=some (some x))->Q σ' H
def FG(X:Cx)(tg:QX)(g:GF):Prop:=PG X tg (JN X.K g)
def setV(i:Nat)(d:D)(ρ:av):av:=ρ.set i (some (.val d))
theorem bq{α:Type}{l:List α}{i j:Nat}{a b:α}(h:(l.set i a)[j]?=some b):(j=i/\b=a)\/(j≠i/\l[j]?=some b):=by
 by_cases e:j=i
 ·subst e;left;have hj:j<(l.set j a).length:=(List.getElem?_eq_some_iff.mp h).1;rw[List.length_set]at hj;rw[MZ hj]at h;exact⟨rfl,(Option.some.inj h).symm⟩
 ·right;rw[M0 (Ne.symm e)]at h;exact⟨e,h⟩
theorem d9.setV{K:PD}{O:List QL}{H:Hp}{ρ:av}{σ:St}(E:d9 K O H ρ σ){i:Nat}{d:D}{v:V}(hi:i<σ.length)(hd:cQ K (hid H O) d v):d9 K O H (setV i d ρ) (σ.set i (some v)):=
  ⟨fun j d' e=>by
    rcases bq e with⟨hj,eq⟩|⟨ne,eq⟩
    ·cases eq;rw[hj];exact⟨v,MZ hi,hd⟩
    · obtain⟨w,e1,e2⟩:=E.val j d' eq
      exact⟨w,by rw[M0 (Ne.symm ne)];exact e1,e2⟩,
   λj xs e=>by
    rcases bq e with⟨_,eq⟩|⟨ne,eq⟩
    ·cases eq
    · obtain⟨a,e1,e2⟩:=E.own j xs eq
      exact⟨a,by rw[M0 (Ne.symm ne)];exact e1,e2⟩,
   λj k xs ys a e1 e2 e3 e4=>by
    rcases bq e1 with⟨_,q1⟩|⟨ne1,q1⟩
    ·cases q1
    · rcases bq e2 with⟨_,q2⟩|⟨ne2,q2⟩
      ·cases q2
      · rw[M0 (Ne.symm ne1)]at e3
        rw[M0 (Ne.symm ne2)]at e4;exact E.one j k xs ys a q1 q2 e3 e4,E.all⟩
section
variable{X:Cx}{pos:Pos}
def gN(i:Nat):GF:=λd ρ=>some (setV i d ρ)
theorem JW{i:Nat}{x:Str}(hN:X.N.Nodup)(hi:X.N[i]?=some x)(hx:Loc X.env.scope x)(hf:X.fn x=true\/X.env.scope.names.lookup x=some .local:=by first|exact .inl rfl|exact .inr rfl|assumption):FG X (.Name x pos) (gN i):=by
 intro pins s σ H v u Q I r ⟨O,ρ,d,ρ',E,hd,hg,q⟩;cases hg;have hiσ:i<σ.length:=by rw[I.len];exact(List.getElem?_eq_some_iff.mp hi).1
 refine DF hN hi hx hf pins s σ H v u Q I r (q _ (E.setV hiσ hd) λj x e nv=>?_);rcases bq e with⟨_,eq⟩|⟨ne,eq⟩
 ·cases eq;exact absurd rfl (nv _)
 ·exact⟨M0 (Ne.symm ne),eq⟩
abbrev Bt:=List D->av->Option av
def Lj(K:PD)(g:Bt):Fd:=λvs σ H Q=>∃O ρ ds ρ',d9 K O H ρ σ/\bj K (hid H O) ds vs/\g ds ρ=some ρ'/\∀σ',d9 K O H ρ' σ'->(∀(i:Nat) x,ρ'[i]?=some (some x)->(∀d,x≠.val d)->σ'[i]?=σ[i]?/\ρ[i]?=some (some x))->Q σ' H
def HY(X:Cx)(ts:List QX)(g:Bt):Prop:=JG X ts (Lj X.K g)
def CW:Bt:=λds ρ=>match ds with
 |[]=>some ρ
 |_=>none
def yk(g:GF)(h:Bt):Bt:=λds ρ=>match ds with
 |d::r=>(g d ρ).bind λρ1=>h r ρ1
 |_=>none
theorem JK:HY X [] CW:=by
 intro pins s σ H vs us Q I r ⟨O,ρ,ds,ρ',E,hd,hg,q⟩;cases ds with
 |nil=>
  cases hg;rw[cY]at hd;exact DX pins s σ H vs us Q I r ⟨hd,q _ E λi x e _=>⟨rfl,e⟩⟩
 |cons _ _=>cases hg
theorem Ic{e:QX}{es:List QX}{g:GF}{h:Bt}(h1:FG X e g)(h2:HY X es h)(hs:(assignEach (e::es) X.env).map (·.2)=assign e X.env::(assignEach es X.env).map (·.2):=by rfl):HY X (e::es) (yk g h):=by
 intro pins s σ H vs us Q I r ⟨O,ρ,ds,ρ',E,hd,hg,q⟩;cases ds with
 |nil=>cases hg
 |cons d ds=>
  obtain⟨ρ1,e1,e2⟩:=bind_some hg;rw[bM]at hd;obtain⟨v,vr,ev,d1,d2⟩:=hd;exact BI h1 h2 hs pins s σ H vs us Q I r ⟨v,vr,ev,O,ρ,d,ρ1,E,d1,e1,λσ1 E1 k1=>⟨O,ρ1,ds,ρ',E1,d2,e2,λσ2 E2 k2=>q σ2 E2 λi x e nv=>by
   obtain⟨a1,a2⟩:=k2 i x e nv;obtain⟨b1,b2⟩:=k1 i x a2 nv;exact⟨a1.trans b1,b2⟩⟩⟩
def gT(n:Nat)(g:Bt):GF:=λd ρ=>match d with
 |.tup xs=>if xs.length=n then g xs ρ else none
 |_=>none
theorem Lf{es:List QX}{k:Nat}{g:Bt}{n:Nat}(hc:X.calm=true)(h:HY X es g)(hn:(assignEach es X.env).length=n:=by rfl)(hst:(assignEach es X.env).findIdx? (·.1)=none:=by rfl):FG X (.Tuple es k pos) (gT n g):=by
 intro pins s σ H v u Q I r ⟨O,ρ,d,ρ',E,hd,hg,q⟩;cases d with
 |tup xs=>
  obtain⟨p,vs,ev,g1,g2⟩:=cG.mp hd;have hg':(if xs.length=n then g xs ρ else none)=some ρ':=hg;by_cases hl:xs.length=n
  ·rw[if_pos hl]at hg';exact GZ hc h hn hst pins s σ H v u Q I r ⟨p,vs,ev,cq (aK H O) g1,by rw[<-g2.length];exact hl,O,ρ,xs,ρ',E,g2,hg',q⟩
  ·rw[if_neg hl]at hg';cases hg'
 |_=>cases hg
end
def Cu{α:Type}(r:R α):R α:=match r with
 |.ok a=>.ok a
 |.error _=>un
theorem BF{α:Type}{r:R α}{a:α}(h:Cu r=.ok a):r=.ok a:=by
 cases r with
 |ok b=>exact h
 |error z=>cases h
def inB(ix:List (Option Nat))(ρ:av):av:=ix.map λo=>match o with
 |some i=>match ρ[i]? with
  |some (some (.val d))=>some (.val d)
  |_=>none
 |none=>none
def Ak(ρ:av)(g:GF)(C:av->R Bool)(Fe:FX):List D->R (List D)
 |[]=>.ok []
 |d::ds=>(rO (g d ρ)).bind λρ1=>(Cu (C ρ1)).bind λc=>if c then(Cu (Fe ρ1)).bind λv=>(Ak ρ g C Fe ds).bind λr=>.ok (v::r)else Ak ρ g C Fe ds
theorem oJ(ρ:av)(g:GF)(C:av->R Bool)(Fe:FX)(d:D)(ds:List D):Ak ρ g C Fe (d::ds)=(rO (g d ρ)).bind λρ1=>(Cu (C ρ1)).bind λc=>if c then(Cu (Fe ρ1)).bind λv=>(Ak ρ g C Fe ds).bind λr=>.ok (v::r)else Ak ρ g C Fe ds:=rfl
def gg(ix:List (Option Nat))(G:av->R (List D))(g:GF)(C:av->R Bool)(Fe:FX):FX:=λρ=>(G ρ).bind λds=>if small ds.length then Cu ((Ak (inB ix ρ) g C Fe ds).bind λr=>.ok (.lst r))else un
def J0(X:Cx)(ifs:List QX)(F:av->R Bool):Prop:=FY X ifs (Kf X F)
def cX:av->R Bool:=λ_=>.ok true
theorem JX{X:Cx}:J0 X [] cX:=λpins s σ H Q I ⟨O,ρ,E,q⟩=>Ez pins s σ H Q I (q H (bE.refl H))
theorem JZ{X:Cx}{c:QX}{F:av->R Bool}(h:FT X c F):J0 X [c] F:=D9 h
theorem ow{ix:List (Option Nat)}{ρ:av}{j:Nat}{x:S}(e:(inB ix ρ)[j]?=some (some x)):∃i d,ix[j]?=some (some i)/\ρ[i]?=some (some (.val d))/\x=.val d:=by
 unfold inB at e;rw[Nm]at e;cases q:ix[j]? with
 |none=>rw[q]at e;cases e
 |some o=>
  rw[q]at e;cases o with
  |none=>cases e
  |some i=>
   have e':(match ρ[i]? with|some (some (.val d))=>some (S.val d)|_=>none)=some x:=Option.some.inj e;split at e'
   ·rename_i d hd;cases e';exact⟨i,d,rfl,hd,rfl⟩
   ·cases e'
theorem Ek{K:PD}{O:List QL}{H:Hp}{ρ:av}{σ:St}(ix:List (Option Nat))(E:d9 K O H ρ σ):d9 K O H (inB ix ρ) (inBlock ix σ):=by
 refine⟨λj d e=>?_,λj xs e=>?_,λj k xs ys a e=>?_,E.all⟩
 ·obtain⟨i,d',q1,q2,q3⟩:=ow e;cases q3;obtain⟨v,e1,e2⟩:=E.val i d q2;refine⟨v,?_,e2⟩;unfold inBlock;rw[Nm,q1];show some ((σ[i]?).getD none)=some (some v);rw[e1];rfl
 ·obtain⟨_,_,_,_,q3⟩:=ow e;cases q3
 ·obtain⟨_,_,_,_,q3⟩:=ow e;cases q3
theorem rF{H:Hp}{O:List QL}{p:QL}{o:HO}(hp:H p=none):bE (hid H O) (hid (upd H p o) (p::O)):=λb u h=>by
 unfold hid at h ⊢;by_cases hb:b∈O
 ·rw[if_pos hb]at h;cases h
 ·rw[if_neg hb]at h;have ne:=bg h hp;rw[if_neg (by intro z;rcases List.mem_cons.mp z with z|z;exact ne z;exact hb z),aQ ne];exact h
theorem d9.hideNew{K:PD}{O:List QL}{H:Hp}{ρ:av}{σ:St}{p:QL}{o:HO}(m:sM o)(E:d9 K O H ρ σ)(hp:H p=none):d9 K (p::O) (upd H p o) ρ σ:=by
 have s:bE (hid H O) (hid (upd H p o) (p::O)):=rF hp;refine⟨λi d e=>let ⟨v,a,b⟩:=E.val i d e;⟨v,a,b.mono s⟩,λi xs e=>?_,E.one,(E.all.same (cf hp o)).cons bb m⟩;obtain⟨a,e1,e2,e3⟩:=E.own i xs e;obtain⟨u,hu⟩:=e3.some;exact⟨a,e1,MX _ e2,e3.mono (by rw[aQ (bg hu hp)]) s⟩
theorem d9.rewrite{K:PD}{O:List QL}{H:Hp}{ρ:av}{σ:St}{p:QL}{o:HO}(m:sM o)(E:d9 K O H ρ σ)(hp:p∈O)(hs:∀(i:Nat) xs,ρ[i]?=some (some (.own xs))->σ[i]?≠some (some (.ref p))):d9 K O (upd H p o) ρ σ:=by
 have s:bE (hid H O) (hid (upd H p o) O):=jg hp;refine⟨λi d e=>let ⟨v,a,b⟩:=E.val i d e;⟨v,a,b.mono s⟩,λi xs e=>?_,E.one,E.all.upd hp m⟩;obtain⟨a,e1,e2,e3⟩:=E.own i xs e;have ne:a≠p:=λz=>hs i xs e (by rw[<-z];exact e1);exact⟨a,e1,e2,e3.mono (by rw[aQ ne]) s⟩
theorem d9.forget{K:PD}{O:List QL}{H:Hp}{ρ ρ':av}{σ:St}(E:d9 K O H ρ σ)(h:∀(i:Nat) x,ρ'[i]?=some (some x)->ρ[i]?=some (some x)):d9 K O H ρ' σ:=
 ⟨λi d e=>E.val i d (h i _ e),λi xs e=>E.own i xs (h i _ e),λi j xs ys a e1 e2=>E.one i j xs ys a (h i _ e1) (h j _ e2),E.all⟩
def Fills(ρ:av)(g:GF):Prop:=∀d ρ1,g d ρ=some ρ1->∀(i:Nat) x,ρ[i]?=some (some x)->ρ1[i]?=some (some x)
theorem uj(ix:List (Option Nat))(ρ:av):∀(i:Nat) xs,(inB ix ρ)[i]?≠some (some (.own xs)):=by
 intro j xs e;obtain⟨_,_,_,_,q3⟩:=ow e;cases q3
theorem Jy{α:Type}{o:Option α}{a:α}(h:rO o=.ok a):o=some a:=by
 cases o with
 |none=>cases h
 |some b=>cases h;rfl
end TG
namespace TG
open PySem PySem.Spec L2
variable[bd]
section
variable{X:Cx}{elt tg iter:QX}{ifs:List QX}{scope:QV}{pos:Pos}{N:List Str}{ix:List (Option Nat)}{G:av->R (List D)}{g:GF}{C:av->R Bool}{Fe:FX}
structure qv(ix:List (Option Nat))(g:GF):Prop where
 fill:∀ρ,Fills (inB ix ρ) g
 own:∀ρ d ρ1,g d (inB ix ρ)=some ρ1->∀(i:Nat) xs,ρ1[i]?≠some (some (.own xs))
theorem v9{ρ:av}{i:Nat}(h:ix[i]?=some none):∀x,(inB ix ρ)[i]?≠some (some x):=λx e=>by
 obtain⟨_,_,q,_⟩:=ow e;rw[h]at q;cases q
theorem bL{i:Nat}(h:ix[i]?=some none):qv ix (gN i):=
  ⟨fun ρ d ρ1 e j x q=>by
    cases e;by_cases z:j=i
    ·subst z;exact absurd q (v9 h x)
    ·unfold setV;rw[M0 (Ne.symm z)];exact q,
   λρ d ρ1 e j xs q=>by
    cases e;rcases bq q with⟨_,z⟩|⟨_,z⟩
    ·cases z
    ·exact uj ix ρ j xs z⟩
def DL(ix:List (Option Nat))(is:List Nat):Bool:=is.all λi=>match ix[i]? with
 |some none=>true
 |_=>false
def og:List Nat->Bt
 |[]=>CW
 |i::is=>yk (gN i) (og is)
theorem zg:∀(is:List Nat)(ds:List D)(ρ ρ1:av),og is ds ρ=some ρ1->∀(k:Nat)(x:S),ρ1[k]?=some (some x)->(k∈is/\∃d,x=.val d)\/ρ[k]?=some (some x)
 |[],ds,ρ,ρ1,h,k,x,e=>by
  cases ds with
  |nil=>cases h;exact .inr e
  |cons _ _=>cases h
 |i::is,ds,ρ,ρ1,h,k,x,e=>by
  cases ds with
  |nil=>cases h
  |cons d ds=>
   rcases zg is ds (setV i d ρ) ρ1 h k x e with⟨a,b⟩|q
   ·exact .inl ⟨MX _ a,b⟩
   ·rcases bq q with⟨z,w⟩|⟨_,w⟩
    ·exact .inl ⟨by rw[z];exact MV,d,Option.some.inj w⟩
    ·exact .inr w
theorem vU:∀(is:List Nat)(ds:List D)(ρ ρ1:av),og is ds ρ=some ρ1->∀(k:Nat)(x:S),k∉is->ρ[k]?=some (some x)->ρ1[k]?=some (some x)
 |[],ds,ρ,ρ1,h,k,x,_,e=>by
  cases ds with
  |nil=>cases h;exact e
  |cons _ _=>cases h
 |i::is,ds,ρ,ρ1,h,k,x,n,e=>by
  cases ds with
  |nil=>cases h
  |cons d ds=>
   refine vU is ds (setV i d ρ) ρ1 h k x (λz=>n (MX _ z)) ?_;unfold setV;rw[M0 (λz=>n (by rw[z];exact MV))];exact e
theorem rK{is:List Nat}{n:Nat}(h:DL ix is=true):qv ix (gT n (og is)):=by
 have hn:∀i∈is,ix[i]?=some none:=λi hi=>by
  have:=List.all_eq_true.mp h i hi
  cases e:ix[i]? with
  |none=>rw[e]at this;cases this
  |some o=>cases o with
   |none=>rfl
   |some _=>rw[e]at this;cases this
 have shape:∀ρ d ρ1,gT n (og is) d ρ=some ρ1->∃ds,og is ds ρ=some ρ1:=λρ d ρ1 e=>by
  cases d with
  |tup xs=>
   have e':(if xs.length=n then og is xs ρ else none)=some ρ1:=e;by_cases hl:xs.length=n
   ·rw[if_pos hl]at e';exact⟨xs,e'⟩
   ·rw[if_neg hl]at e';cases e'
  |_=>cases e
 refine⟨λρ d ρ1 e k x q=>?_,λρ d ρ1 e k xs q=>?_⟩
 ·obtain⟨ds,e⟩:=shape _ d ρ1 e;exact vU is ds _ ρ1 e k x (λz=>v9 (hn k z) x q) q
 ·obtain⟨ds,e⟩:=shape _ d ρ1 e;rcases zg is ds _ ρ1 e k _ q with⟨_,d,z⟩|z
  ·cases z
  ·exact uj ix ρ k xs z
structure iK(X:Cx)(scope:QV)(N:List Str)(ix:List (Option Nat)):Prop where
 cell:∀y∈scope.names,y.2≠.cell
 kind:scope.kind=.function
 names:∀y∈scope.names,y.2=.local->scope.names.lookup y.1=some .local
 free:∀y∈scope.names,y.2=.free->X.env.scope.names.lookup y.1=some .cell\/X.env.scope.names.lookup y.1=some .free
 ix:vB X.N N scope.names ix=true
def zC(XS:List (Str×Ro))(XN:List Str)(scope:QV)(N:List Str)(ix:List (Option Nat)):Bool:=
 scope.names.all (λy=>decide (y.2≠.cell))&&decide (scope.kind=.function)&&scope.names.all (λy=>decide (y.2≠.local)||decide (scope.names.lookup y.1=some .local)) &&
  scope.names.all (λy=>decide (y.2≠.free)||(decide (XS.lookup y.1=some .cell)||decide (XS.lookup y.1=some .free)))&&vB XN N scope.names ix
theorem iK.of(h:zC X.env.scope.names X.N scope N ix=true):iK X scope N ix:=by
 unfold zC at h;simp only[Nu]at h;obtain⟨⟨⟨⟨h1,h2⟩,h3⟩,h4⟩,h5⟩:=h;refine⟨λy hy=>of_decide_eq_true (List.all_eq_true.mp h1 y hy),of_decide_eq_true h2,λy hy e=>?_,λy hy e=>?_,h5⟩
 ·rcases N2 _ _ ▸ List.all_eq_true.mp h3 y hy with q|q
  ·exact absurd e (of_decide_eq_true q)
  ·exact of_decide_eq_true q
 ·rcases N2 _ _ ▸ List.all_eq_true.mp h4 y hy with q|q
  ·exact absurd e (of_decide_eq_true q)
  ·rcases N2 _ _ ▸ q with q|q
   ·exact .inl (of_decide_eq_true q)
   ·exact .inr (of_decide_eq_true q)
def HN(X:Cx)(scope:QV)(N:List Str)(tg elt:QX)(ifs:List QX)(g:GF)(C:av->R Bool)(Fe:FX):Prop:=
 ∀cl C' fp s H E,FG (cI X scope N cl C' fp s H E) tg g/\J0 (cI X scope N cl C' fp s H E) ifs C/\FE (cI X scope N cl C' fp s H E) elt Fe
def HD(K:PD)(F:av->R Bool):TT:=λσ H Q=>∃O ρ b,d9 K O H ρ σ/\F ρ=.ok b/\∀H',bE H H'->Q b H'
def LY(K:PD)(F:FX):TE:=λσ H Q=>∃O ρ d,d9 K O H ρ σ/\F ρ=.ok d/\∀v H',bE H H'->cQ K (hid H' O) d v->Q v H'
theorem HN.k(hb:HN X scope N tg elt ifs g C Fe):∀cl C' fp s H E,PG (cI X scope N cl C' fp s H E) tg (JN X.K g)/\FY (cI X scope N cl C' fp s H E) ifs (HD X.K C)/\PE (cI X scope N cl C' fp s H E) elt (LY X.K Fe):=λcl C' fp s H E=>by
 obtain⟨h1,h2,h3⟩:=hb cl C' fp s H E;refine⟨h1,λpins s σ H Q I ⟨O,ρ,b,e1,e2,q⟩=>h2 pins s σ H Q I ⟨O,ρ,e1,by rw[e2];exact q⟩,λpins s σ H Q I ⟨O,ρ,d,e1,e2,q⟩=>h3 pins s σ H Q I ⟨O,ρ,e1,by rw[e2];exact q⟩⟩
def Ly(X:Cx)(F:FX):TE:=λσ H Q=>∃O ρ,d9 X.K O H ρ σ/\i7 X σ O H (F ρ) λd=>∀D H' total acc,d=.lst total->bE H H'->H D=none->H' D=some (.lst acc)->bj X.K (hid H' (D::O)) total acc->Q (.ref D) H'
theorem K7{F:FX}:∀σ H Q,tF X F σ H Q->Ly X F σ H Q:=λσ H Q ⟨O,ρ,E,hF⟩=>⟨O,ρ,E,hF.imp λd q D H' total acc e sm hD hD' dn=>by
 subst e;have DO:D∉O:=E.all.not hD;exact q _ H' sm (cH.mpr ⟨D,acc,rfl,n0.of (by rw[jv DO];exact hD'),dn.mono (iY λa ha=>MX _ ha)⟩)⟩
theorem Dl(tk:qv ix g):∀σ H Q,Ly X (gg ix G g C Fe) σ H Q->J2 (K9 X G) (JN X.K g) (HD X.K C) (LY X.K Fe) ix σ H Q:=λσ H Q ⟨O,ρ,E,hF⟩=>by
 refine⟨O,ρ,E,(i7.bind hF).imp λds hF=>?_⟩;have hz:small ds.length=true:=by
  cases e:small ds.length with
  |true=>rfl
  |false=>rw[e]at hF;exact hF.elim
 rw[hz,if_pos rfl]at hF;cases hL:Ak (inB ix ρ) g C Fe ds with
 |error z=>rw[hL]at hF;exact hF.elim
 |ok total=>
 rw[hL]at hF;have q:∀D H' total' acc,TG.D.lst total=.lst total'->bE H H'->H D=none->H' D=some (.lst acc)->bj X.K (hid H' (D::O)) total' acc->Q (.ref D) H':=hF;have e2:=hL;have hfill:=tk.fill;have hown:=tk.own;refine λJ H1 s1 wk D hD=>?_;have E1:d9 X.K (D::O) (upd H1 D (.lst [])) (inB ix ρ) (inBlock ix σ):=((Ek ix E).same s1).hideNew trivial hD;have DO:D∉O:=(E.all.same s1).not hD;refine⟨λi m σ' H'=>m=ds.length-i/\i<=ds.length/\bE H1 H'/\d9 X.K (D::O) H' (inB ix ρ) σ'/\∃acc dn rest,H' D=some (.lst acc)/\acc.length<=i/\bj X.K (hid H' (D::O)) dn acc/\Ak (inB ix ρ) g C Fe (ds.drop i)=.ok rest/\dn++rest=total,
  ⟨ds.length,by rw[N9],Nc _,cf hD _,E1,[],[],total,bb,M3 _,cY.mpr rfl,by rw[NV];exact e2,rfl⟩,?_⟩
 rintro i m σ' H' ⟨rfl,hi,sm,E',acc,dn,rest,hacc,hlen,hdn,hrest,htot⟩;have sH:bE (hid H1 O) (hid H' (D::O)):=λb o h=>by
  have h2:=sm b o (aK H1 O b o h);unfold hid at h ⊢;by_cases hb:b∈O
  ·rw[if_pos hb]at h;cases h
  ·rw[if_neg hb]at h;have ne:b≠D:=bg h hD;rw[if_neg (by intro z;rcases List.mem_cons.mp z with z|z;exact ne z;exact hb z)];exact h2
 by_cases hlt:i<ds.length
 ·right;obtain⟨go,yl⟩:=(wk H' (D::O) i E'.all sH).1 ds[i] (by simp[hlt]);refine⟨go,λx H2 y=>?_⟩;obtain⟨s2,dx'⟩:=yl x H2 y;have E':=E'.same s2;have sm:=sm.trans s2;have hacc:=s2 _ _ hacc;have hdn:=hdn.mono (cy s2);rw[Oc hlt,oJ]at hrest;obtain⟨ρ1,g1,hrest⟩:=qG hrest;have g1:=Jy g1;obtain⟨c,c1,hrest⟩:=qG hrest;have c1:=BF c1;refine⟨D::O,inB ix ρ,ds[i],ρ1,E',dx',g1,λσ3 E3 _=>?_⟩;refine⟨D::O,ρ1,c,E3,c1,λH4 s4=>?_⟩;have E4:=E3.same s4;have back:∀{H5:Hp},d9 X.K (D::O) H5 ρ1 σ3->d9 X.K (D::O) H5 (inB ix ρ) σ3:=λz=>z.forget λj x e=>hfill ρ _ _ g1 j x e;cases c with
  |true=>
   refine Dk ?_;rw[if_pos rfl]at hrest;obtain⟨v,v1,hrest⟩:=qG hrest;have v1:=BF v1;obtain⟨r,r1,hrest⟩:=qG hrest;cases hrest;refine⟨D::O,ρ1,v,E4,v1,λw H5 s5 dw=>?_⟩;have s45:=s4.trans s5;have ha5:H5 D=some (.lst acc):=s45 _ _ hacc;have hzl:ds.length<QO:=Od (of_decide_eq_true hz) (by decide);refine⟨acc,ha5,by omega,ds.length-(i+1),by omega,rfl,hlt,?_,?_,acc++[w],dn++[v],r,bb,by rw[Np,Nw];omega,?_,r1,by rw[Oe];exact htot⟩
   ·intro b o h;rw[aQ (bg h hD)];exact s45 _ _ (sm _ _ h)
   ·exact back ((E3.same s45).rewrite trivial MV λj xs e=>absurd e (hown ρ _ _ g1 j xs))
   ·have s6:bE (hid H5 (D::O)) (hid (upd H5 D (.lst (acc++[w]))) (D::O)):=jg MV;exact(hdn.mono ((cy s45).trans s6)).snoc (dw.mono s6)
  |false=>
   refine CB ?_;rw[if_neg M9]at hrest;exact⟨ds.length-(i+1),by omega,rfl,hlt,sm.trans s4,back E4,acc,dn,rest,s4 _ _ hacc,by omega,hdn.mono (cy s4),hrest,htot⟩
 ·left;have ei:i=ds.length:=by omega
  subst ei;refine⟨(wk H' (D::O) ds.length E'.all sH).2 rfl,?_⟩;rw[Of]at hrest;cases hrest;rw[Nf]at htot;subst htot;exact q D H' _ acc rfl (s1.trans sm) (s1.free hD) hacc hdn
theorem Fo(tk:qv ix g):∀σ H Q,tF X (gg ix G g C Fe) σ H Q->J2 (K9 X G) (JN X.K g) (HD X.K C) (LY X.K Fe) ix σ H Q:=λσ H Q h=>Dl tk σ H Q (K7 σ H Q h)
theorem Mh(hc:X.calm=true)(ok:iK X scope N ix)(tk:qv ix g)(hi:FI X tg iter G)(hb:HN X scope N tg elt ifs g C Fe)
  (hs:∀x,Q8 iter X.env x=pure x:=by intro _;rfl):FE X (.ListComp elt [⟨tg,iter,ifs,0⟩] scope pos) (gg ix G g C Fe):=
 PE.weak (FR hc ok.cell ok.kind ok.names ok.free ok.ix hi hb.k hs) (Fo tk)
end
structure Ks where
 nx:av->R D
 bk:av->R D:=λ_=>un
 ct:av->R D:=λ_=>un
 ex:Ex->av->R D:=λx _=>.error (some x)
abbrev cx:=Ks->av->R D
def sL{α:Type}(r:R α)(k:Ks)(ρ:av)(f:α->R D):R D:=match r with
 |.ok a=>f a
 |.error (some x)=>k.ex x ρ
 |.error none=>un
structure Base(Hb:Hp)(Ob:List QL)(H:Hp)(O:List QL):Prop where
 same:bE Hb H
 sub:∀a∈Ob,a∈O
 new:∀a∈O,a∈Ob\/Hb a=none
def sC(K:PD)(H:Hp)(O:List QL):List QL->List D->Prop
 |[],[]=>True
 |b::bs,x::xs=>eO K H O b x/\sC K H O bs xs
 |_,_=>False
def tE(K:PD)(H:Hp)(O:List QL)(a:QL)(bs:List QL)(d:D):Prop:=
 ∃xs,sC K H O bs xs/\((d=.lst xs/\H a=some (.lst (bs.map .ref)))\/(∃kvs:List (List Key×V),d=.dct (kvs.map λp=>.tup (p.1.map bN)) xs/\H a=some (.dT kvs)/\kvs.map (·.2)=bs.map .ref)\/(d=.dct [] xs/\bs=[]/\H a=some (.dK [])))
def zq(K:PD)(Hb:Hp)(Ob O:List QL)(H:Hp)(ρ:av)(σ:St)(i:Nat)(d:D):Prop:=
 ∃a bs,σ[i]?=some (some (.ref a))/\tE K H O a bs d/\(a::bs).Nodup/\(∀b∈a::bs,b∈O/\Hb b=none/\b∉Ob/\∀(j:Nat) d',ρ[j]?=some (some (.own d'))->σ[j]?≠some (some (.ref b)))/\∀(j:Nat) d',ρ[j]?=some (some (.nest d'))->j=i
theorem sC.mono{K:PD}{H H':Hp}{O O':List QL}(s:bE (hid H O) (hid H' O')):∀{bs:List QL}{xs:List D},sC K H O bs xs->(∀b∈bs,(∃o,H b=some o)->H' b=H b)->sC K H' O' bs xs
 |[],[],_,_=>trivial
 |b::bs,x::xs,h,e=>⟨h.1.mono (e b MV h.1.some).symm s,sC.mono s h.2 λb' hb=>e b' (MX _ hb)⟩
 |[],_::_,h,_=>h.elim
 |_::_,[],h,_=>h.elim
theorem sC.some{K:PD}{H:Hp}{O:List QL}:∀{bs:List QL}{xs:List D},sC K H O bs xs->∀b∈bs,∃o,H b=some o
 |[],_,_,_,hb=>nomatch hb
 |b::bs,x::xs,h,b',hb=>by
  rcases List.mem_cons.mp hb with z|z
  ·rw[z];exact h.1.some
  ·exact sC.some h.2 b' z
 |_::_,[],h,_,_=>h.elim
theorem tE.some{K:PD}{H:Hp}{O:List QL}{a:QL}{bs:List QL}{d:D}(h:tE K H O a bs d):∀b∈a::bs,∃o,H b=some o:=λb hb=>by
 obtain⟨xs,h1,h2⟩:=h;rcases List.mem_cons.mp hb with z|z
 ·rw[z];rcases h2 with⟨_,q⟩|⟨_,_,q,_⟩|⟨_,_,q⟩<;>exact⟨_,q⟩
 ·exact h1.some b z
theorem tE.mono{K:PD}{H H':Hp}{O O':List QL}{a:QL}{bs:List QL}{d:D}(h:tE K H O a bs d)(s:bE (hid H O) (hid H' O'))(e:∀b∈a::bs,(∃o,H b=Option.some o)->H' b=H b):tE K H' O' a bs d:=by
 have ea:=e a MV (h.some a MV);obtain⟨xs,h1,h2⟩:=h;refine⟨xs,h1.mono s λb hb=>e b (MX _ hb),?_⟩;rw[ea];exact h2
theorem zq.to{K:PD}{Hb Hb':Hp}{Ob O O':List QL}{H H':Hp}{ρ ρ':av}{σ σ':St}{i:Nat}{d:D}(h:zq K Hb Ob O H ρ σ i d)(hσ:σ'[i]?=σ[i]?)(s:bE (hid H O) (hid H' O'))
  (k:∀b,b∈O->Hb b=none->b∉Ob->(∀(j:Nat) d',ρ[j]?=some (some (.own d'))->σ[j]?≠some (some (.ref b)))->(∃o,H b=some o)->H' b=H b/\b∈O'/\Hb' b=none/\∀(j:Nat) d',ρ'[j]?=some (some (.own d'))->σ'[j]?≠some (some (.ref b)))
  (n:∀(j:Nat) d',ρ'[j]?=some (some (.nest d'))->∃d2,ρ[j]?=some (some (.nest d2))):zq K Hb' Ob O' H' ρ' σ' i d:=by
 obtain⟨a,bs,h1,h2,h3,h4,h5⟩:=h;refine⟨a,bs,hσ.trans h1,h2.mono s λb hb ho=>?_,h3,λb hb=>?_,λj d' q=>?_⟩
 ·obtain⟨q1,q2,q3,q4⟩:=h4 b hb;exact(k b q1 q2 q3 q4 ho).1
 ·obtain⟨q1,q2,q3,q4⟩:=h4 b hb;obtain⟨_,w2,w3,w4⟩:=k b q1 q2 q3 q4 (h2.some b hb);exact⟨w2,w3,q3,w4⟩
 ·obtain⟨d2,q⟩:=n j d' q;exact h5 j d2 q
structure dU(K:PD)(Hb:Hp)(Ob O:List QL)(H:Hp)(ρ:av)(σ:St):Prop where
 env:d9 K O H ρ σ
 base:Base Hb Ob H O
 mine:∀(i:Nat) xs a,ρ[i]?=some (some (.own xs))->σ[i]?=some (some (.ref a))->Hb a=none/\a∉Ob
 nst:∀(i:Nat) d,ρ[i]?=some (some (.nest d))->zq K Hb Ob O H ρ σ i d
theorem Base.same'{Hb:Hp}{Ob:List QL}{H H':Hp}{O:List QL}(b:Base Hb Ob H O)(s:bE H H'):Base Hb Ob H' O:=⟨b.same.trans s,b.sub,b.new⟩
theorem dU.same{K:PD}{Hb:Hp}{Ob O:List QL}{H H':Hp}{ρ:av}{σ:St}(h:dU K Hb Ob O H ρ σ)(s:bE H H'):dU K Hb Ob O H' ρ σ:=⟨h.env.same s,h.base.same' s,h.mine,λi d q=>(h.nst i d q).to rfl (cy s) (λb q1 q2 q3 q4 ⟨o,ho⟩=>⟨by rw[ho,s _ _ ho],q1,q2,q4⟩) λj d' z=>⟨d',z⟩⟩
theorem dU.after{K:PD}{Hb:Hp}{Ob O:List QL}{H:Hp}{ρ ρ':av}{σ σ':St}(S:dU K Hb Ob O H ρ σ)(E':d9 K O H ρ' σ')(own:∀(i:Nat) x,ρ'[i]?=some (some x)->(∀d,x≠.val d)->σ'[i]?=σ[i]?/\ρ[i]?=some (some x)):dU K Hb Ob O H ρ' σ':=
 ⟨E',S.base,fun i xs a q1 q2=>by
  obtain⟨w1,w2⟩:=own i _ q1 (λ_ z=>nomatch z);rw[w1]at q2;exact S.mine i xs a w2 q2,λi d q=>by
  obtain⟨w1,w2⟩:=own i _ q (λ_ z=>nomatch z);refine(S.nst i d w2).to w1 (λ_ _ z=>z) (λb q1 q2 q3 q4 _=>⟨rfl,q1,q2,λl d' w=>?_⟩) λl d' w=>⟨d',(own l _ w (λ_ z=>nomatch z)).2⟩
  obtain⟨z1,z2⟩:=own l _ w (λ_ z=>nomatch z);rw[z1];exact q4 l d' z2⟩
structure JR(X:Cx)(Hb:Hp)(Ob:List QL)(E:Ends)(k:Ks)(r:R D):Prop where
 ne:r≠un
 nx:∀O ρ σ H,dU X.K Hb Ob O H ρ σ->k.nx ρ=r->E.nx σ H
 bk:∀O ρ σ H,dU X.K Hb Ob O H ρ σ->k.bk ρ=r->E.bk σ H
 ct:∀O ρ σ H,dU X.K Hb Ob O H ρ σ->k.ct ρ=r->E.ct σ H
 rt:∀d O v H,r=.ok d->Base Hb Ob H O->cQ X.K (hid H O) d v->E.rt v H
 ex:∀O ρ σ H x,dU X.K Hb Ob O H ρ σ->k.ex x ρ=r->HS X σ O H x
def Lx(X:Cx)(Hb:Hp)(Ob:List QL)(F:cx):TS:=λE σ H=>∃O ρ k r,dU X.K Hb Ob O H ρ σ/\F k ρ=r/\JR X Hb Ob E k r
def FS(X:Cx)(st:QZ)(F:cx):Prop:=∀Hb Ob,PS X st (Lx X Hb Ob F)
def xO(X:Cx)(st:List QZ)(F:cx):Prop:=∀Hb Ob,AY X st (Lx X Hb Ob F)
theorem i7.on{X:Cx}{Hb:Hp}{Ob O:List QL}{H:Hp}{ρ:av}{σ:St}{E:Ends}{k:Ks}{r:R D}{α:Type}{fr:R α}{G:α->R D}{Q:α->Prop}(h:sL fr k ρ G=r)(hk:JR X Hb Ob E k r)(S:dU X.K Hb Ob O H ρ σ)(q:∀a,G a=r->Q a):i7 X σ O H fr Q:=by
 match fr,h with
 |.ok a,h=>exact q a h
 |.error (some x),h=>exact hk.ex O ρ σ H x S h
 |.error none,h=>exact absurd h.symm hk.ne
section
variable{X:Cx}{st:QZ}{rest body:List QZ}{pos:Pos}
def bZ:cx:=λk ρ=>k.nx ρ
def aH(F1 F2:cx):cx:=λk ρ=>F1 {k with nx:=F2 k} ρ
theorem J4:xO X [] bZ:=λHb Ob=>AY.weak Ec λE σ H ⟨O,ρ,k,r,S,hF,hk⟩=>hk.nx O ρ σ H S hF
theorem Jf{F1 F2:cx}(h1:FS X st F1)(h2:xO X rest F2):xO X (st::rest) (aH F1 F2):=λHb Ob=>AY.weak (Bz (h1 Hb Ob) (h2 Hb Ob)) λE σ H ⟨O,ρ,k,r,S,hF,hk⟩=>
 ⟨O,ρ,{k with nx:=F2 k},r,S,hF,hk.ne,λO' ρ' σ' H' S' e=>⟨O',ρ',k,r,S',e,hk⟩,hk.bk,hk.ct,hk.rt,hk.ex⟩
theorem JP{F1:cx}(h1:FS X st F1):xO X [st] F1:=λHb Ob=>EK (h1 Hb Ob)
def bI(f:FX):cx:=λk ρ=>sL (f ρ) k ρ .ok
theorem KC{e:QX}{f:FX}(h:FE X e f):FS X (.Return (some e) pos) (bI f):=λHb Ob=>PS.weak (GP h) λE σ H ⟨O,ρ,k,r,S,hF,hk⟩=>
 ⟨O,ρ,S.env,i7.on hF hk S λd e v H' s' d'=>hk.rt d O v H' e.symm (S.base.same' s') d'⟩
def IJ:cx:=λ_ _=>.ok .non
def ik(c:av->R Bool)(A B:cx):cx:=λk ρ=>sL (c ρ) k ρ λb=>if b then A k ρ else B k ρ
theorem Mi{c:QX}{a b:List QZ}{tc:av->R Bool}{A B:cx}(hc:FT X c tc)(ha:xO X a A)(hb:xO X b B):FS X (.If c a b pos) (ik tc A B):=λHb Ob=>PS.weak (Ib hc (ha Hb Ob) (hb Hb Ob)) λE σ H ⟨O,ρ,k,r,S,hF,hk⟩=>
 ⟨O,ρ,S.env,i7.on hF hk S fun z e H1 s1=>by
  cases z with
  |true=>exact Dk ⟨O,ρ,k,r,S.same s1,e,hk⟩
  |false=>exact CB ⟨O,ρ,k,r,S.same s1,e,hk⟩⟩
def bG(i:Nat)(f:FX):cx:=λk ρ=>sL (f ρ) k ρ λd=>k.nx (setV i d ρ)
theorem dU.setV{K:PD}{Hb:Hp}{Ob O:List QL}{H:Hp}{ρ:av}{σ:St}(E:dU K Hb Ob O H ρ σ){i:Nat}{d:D}{v:V}(hi:i<σ.length)(hd:cQ K (hid H O) d v):dU K Hb Ob O H (setV i d ρ) (σ.set i (some v)):=
  ⟨E.env.setV hi hd,E.base,fun j xs a e1 e2=>by
    rcases bq e1 with⟨_,q⟩|⟨ne,q⟩
    ·cases q
    · rw[M0 (Ne.symm ne)]at e2
      exact E.mine j xs a q e2,
   λj dn e=>by
    rcases bq e with⟨_,q⟩|⟨ne,q⟩
    ·cases q
    · refine(E.nst j dn q).to (M0 (Ne.symm ne)) (λ_ _ z=>z) (λb q1 q2 q3 q4 _=>⟨rfl,q1,q2,λl d' w=>?_⟩) λl d' w=>?_
      · rcases bq w with⟨_,z⟩|⟨nl,z⟩
        ·cases z
        ·rw[M0 (Ne.symm nl)];exact q4 l d' z
      · rcases bq w with⟨_,z⟩|⟨_,z⟩
        ·cases z
        ·exact⟨d',z⟩⟩
theorem uk{f:FX}{i:Nat}(hi:i<X.N.length)(h:PS X st (Cj (tF X f) (uM i))):FS X st (bG i f):=λHb Ob pins s σ H E I ⟨O,ρ,k,r,S,hF,hk⟩=>
 h pins s σ H E I ⟨O,ρ,S.env,i7.on hF hk S λd e v H1 s1 d1=>hk.nx O _ _ H1 ((S.same s1).setV (by rw[I.len];exact hi) d1) e⟩
theorem KR{i:Nat}{x:Str}{e:QX}{f:FX}{pos':Pos}(hN:X.N.Nodup)(hi:X.N[i]?=some x)(hx:Loc X.env.scope x)(he:FE X e f)(hs:swapsWith e (some (.Name x pos')) pos.line X.env=pure false:=by rfl)(hf:X.fn x=true\/X.env.scope.names.lookup x=some .local:=by first|exact .inl rfl|exact .inr rfl|assumption):
  FS X (.Assign [.Name x pos'] e pos) (bG i f):=uk (List.getElem?_eq_some_iff.mp hi).1 (yu hN hi hx he hs hf)
theorem Mk{elt tg iter:QX}{ifs:List QX}{scope:QV}{N:List Str}{ix:List (Option Nat)}{G:av->R (List D)}{g:GF}{C:av->R Bool}{Fe:FX}{i:Nat}{y:Str}{lpos py spos:Pos}(hN:X.N.Nodup)(hi':X.N[i]?=some y)(hx:Loc X.env.scope y)
  (hc:X.calm=true) (ok:iK X scope N ix) (tk:qv ix g) (hi:FI X tg iter G) (hb:HN X scope N tg elt ifs g C Fe)
  (hsw:swapsWith (.ListComp elt [⟨tg,iter,ifs,0⟩] scope lpos) (some (.Name y py)) spos.line X.env=pure true:=by rfl)
  (hs:∀x,Q8 iter X.env x=pure x:=by intro _;rfl)
  (hf:X.fn y=true\/X.env.scope.names.lookup y=some .local:=by first|exact .inl rfl|exact .inr rfl|assumption):
  FS X (.Assign [.Name y py] (.ListComp elt [⟨tg,iter,ifs,0⟩] scope lpos) spos) (bG i (gg ix G g C Fe)):=
 uk (List.getElem?_eq_some_iff.mp hi').1 (PS.weak (FC hN hi' hx hc ok.cell ok.kind ok.names ok.free ok.ix hi hb.k hsw hs hf) λE σ H q=>Fo tk σ H _ q)
def D4(f:FX)(g:GF):cx:=λk ρ=>sL (f ρ) k ρ λd=>(rO (g d ρ)).bind k.nx
theorem Kr{tg e:QX}{f:FX}{g:GF}(he:FE X e f)(hg:FG X tg g)(hs:swapsWithSole [tg] e pos.line X.env=pure false:=by rfl)(hw:swappedStores [tg] e X.env=pure none:=by rfl)
  (h1:(assignEach [tg] X.env).map (·.2)=[assign tg X.env]:=by rfl):FS X (.Assign [tg] e pos) (D4 f g):=λHb Ob=>PS.weak (GU he hg hs hw h1) λE σ H ⟨O,ρ,k,r,S,hF,hk⟩=>
 ⟨O,ρ,S.env,i7.on hF hk S fun d e v H1 s1 d1=>by
  cases hg:g d ρ with
  |none=>rw[hg]at e;exact absurd e.symm hk.ne
  |some ρ1=>
   rw[hg]at e;refine⟨O,ρ,d,ρ1,(S.same s1).env,d1,hg,λσ' E' own=>hk.nx O ρ1 σ' H1 ((S.same s1).after E' own) e⟩⟩
def kill(is:List Nat)(ρ:av):av:=is.foldl (λρ i=>ρ.set i none) ρ
theorem jD:∀(is:List Nat)(ρ:av)(i:Nat)(x:S),(kill is ρ)[i]?=some (some x)->ρ[i]?=some (some x)
 |[],ρ,i,x,e=>e
 |j::is,ρ,i,x,e=>by
  rcases bq (jD is (ρ.set j none) i x e)with⟨_,q⟩|⟨_,q⟩
  ·cases q
  ·exact q
theorem dU.kill{K:PD}{Hb:Hp}{Ob O:List QL}{H:Hp}{ρ:av}{σ:St}(E:dU K Hb Ob O H ρ σ)(is:List Nat):dU K Hb Ob O H (kill is ρ) σ:=
 ⟨E.env.forget (jD is ρ),E.base,λi xs a e1 e2=>E.mine i xs a (jD is ρ i _ e1) e2,λi d q=>(E.nst i d (jD is ρ i _ q)).to rfl (λ_ _ z=>z) (λb q1 q2 q3 q4 _=>⟨rfl,q1,q2,λl d' w=>q4 l d' (jD is ρ l _ w)⟩) λl d' w=>⟨d',jD is ρ l _ w⟩⟩
def cD(is:List Nat)(F:cx):cx:=λk ρ=>F k (kill is ρ)
theorem Jd{st:List QZ}{F:cx}(is:List Nat)(h:xO X st F):xO X st (cD is F):=λHb Ob=>AY.weak (h Hb Ob) λE σ H ⟨O,ρ,k,r,S,hF,hk⟩=>⟨O,TG.kill is ρ,k,r,S.kill is,hF,hk⟩
end
def iu(g:GF)(B:cx)(k:Ks):List D->av->R D
 |[],ρ=>k.nx ρ
 |d::ds,ρ=>(rO (g d ρ)).bind λρ1=>B ⟨iu g B k ds,k.nx,iu g B k ds,k.ex⟩ ρ1
def fT(G:av->R (List D))(g:GF)(B:cx):cx:=λk ρ=>sL (G ρ) k ρ λds=>iu g B k ds ρ
def lb(H:Hp)(O Ob:List QL):Hp:=λb=>if b∈O/\b∉Ob then none else H b
theorem uT{H:Hp}{O Ob:List QL}{b:QL}(h1:b∈O)(h2:b∉Ob):lb H O Ob b=none:=by unfold lb;rw[if_pos ⟨h1,h2⟩]
theorem Eo{H:Hp}{O Ob:List QL}{b:QL}{o:HO}(h:lb H O Ob b=some o):H b=some o/\¬(b∈O/\b∉Ob):=by
 unfold lb at h;split at h
 ·cases h
 ·rename_i n;exact⟨h,n⟩
theorem BQ{H:Hp}{O Ob:List QL}{b:QL}{o:HO}(h:H b=some o)(n:¬(b∈O/\b∉Ob)):lb H O Ob b=some o:=by unfold lb;rw[if_neg n];exact h
theorem Base.loop{Hb:Hp}{Ob:List QL}{H:Hp}{O:List QL}(b:Base Hb Ob H O):Base (lb H O Ob) Ob H O:=
 ⟨fun c o h=>(Eo h).1,b.sub,fun a ha=>by
  by_cases h:a∈Ob
  ·exact .inl h
  ·exact .inr (uT ha h)⟩
theorem Base.back{Hb:Hp}{Ob:List QL}{H H':Hp}{O O':List QL}(b:Base Hb Ob H O)(b':Base (lb H O Ob) Ob H' O'):Base Hb Ob H' O':=by
 have up:bE Hb (lb H O Ob):=λc o h=>BQ (b.same c o h) λ⟨z1,z2⟩=>by
  rcases b.new c z1 with z|z
  ·exact z2 z
  ·rw[z]at h;cases h
 exact⟨up.trans b'.same,b'.sub,λa ha=>(b'.new a ha).imp id up.free⟩
theorem dU.loop{K:PD}{Hb:Hp}{Ob O:List QL}{H:Hp}{ρ:av}{σ:St}(E:dU K Hb Ob O H ρ σ):dU K (lb H O Ob) Ob O H ρ σ:=
 ⟨E.env,E.base.loop,fun i xs a e1 e2=>by
  obtain⟨_,n⟩:=E.mine i xs a e1 e2;obtain⟨a',e3,e4,_⟩:=E.env.own i xs e1;rw[e2]at e3;cases e3;exact⟨uT e4 n,n⟩,λi d q=>(E.nst i d q).to rfl (λ_ _ z=>z) (λb q1 q2 q3 q4 _=>⟨rfl,q1,uT q1 q3,q4⟩) λl d' w=>⟨d',w⟩⟩
theorem dU.back{K:PD}{Hb:Hp}{Ob O O':List QL}{H H':Hp}{ρ':av}{σ':St}(b:Base Hb Ob H O)(E:dU K (lb H O Ob) Ob O' H' ρ' σ'):dU K Hb Ob O' H' ρ' σ':=
 have up:bE Hb (lb H O Ob):=λc o h=>BQ (b.same c o h) λ⟨z1,z2⟩=>by
  rcases b.new c z1 with z|z
  ·exact z2 z
  ·rw[z]at h;cases h
 ⟨E.env,b.back E.base,fun i xs a e1 e2=>by
  obtain⟨z,n⟩:=E.mine i xs a e1 e2;exact⟨up.free z,n⟩,λi d q=>(E.nst i d q).to rfl (λ_ _ z=>z) (λb q1 q2 q3 q4 _=>⟨rfl,q1,up.free q2,q4⟩) λl d' w=>⟨d',w⟩⟩
theorem Dc{Hb:Hp}{Ob O O':List QL}{H H':Hp}(b:Base Hb Ob H O)(b':Base (lb H O Ob) Ob H' O'):bE (hid H O) (hid H' O'):=λc o h=>by
 unfold hid at h ⊢;by_cases hc:c∈O
 ·rw[if_pos hc]at h;cases h
 ·rw[if_neg hc]at h;have h1:lb H O Ob c=some o:=BQ h λz=>hc z.1;rw[if_neg]
  ·exact b'.same _ _ h1
  ·intro z;rcases b'.new c z with z|z
   ·exact hc (b.sub c z)
   ·rw[h1]at z;cases z
theorem JR.loop{X:Cx}{Hb:Hp}{Ob O:List QL}{H:Hp}{E E':Ends}{k k':Ks}{r:R D}(hk:JR X Hb Ob E k r)(b:Base Hb Ob H O)(hn:∀O' ρ' σ' H',dU X.K (lb H O Ob) Ob O' H' ρ' σ'->k'.nx ρ'=r->E'.nx σ' H')(hc:∀O' ρ' σ' H',dU X.K (lb H O Ob) Ob O' H' ρ' σ'->k'.ct ρ'=r->E'.ct σ' H')
    (eb:k'.bk=k.nx) (ee:k'.ex=k.ex) (Eb:E'.bk=E.nx) (Er:E'.rt=E.rt):JR X (lb H O Ob) Ob E' k' r:=
  ⟨hk.ne,hn,fun O' ρ' σ' H' S e=>by rw [Eb]; exact hk.nx O' ρ' σ' H' (S.back b) (by rw [<- eb]; exact e),hc,fun d O' v H' e b' dv=>by rw [Er]; exact hk.rt d O' v H' e (b.back b') dv,
   λO' ρ' σ' H' x S e=>hk.ex O' ρ' σ' H' x (S.back b) (by rw[<-ee];exact e)⟩
section
variable{X:Cx}{st:QZ}{rest body:List QZ}{pos:Pos}
theorem Lq{tg iter:QX}{G:av->R (List D)}{g:GF}{B:cx}(hp:Q7 (model X.prog X.w) X.A X.env X.xe)(hc:X.calm=true)(hi:FI X tg iter G)(hg:FG X tg g)(hb:xO X body B)
  (hs:∀x,Q8 iter X.env x=pure x:=by intro _;rfl):FS X (.For tg iter body [] pos) (fT G g B):=λHb Ob pins s σ H E I ⟨O,ρ,k,r,S,hF,hk⟩=>by
 have hall:AY X body (λE σ H=>∃Hb',Lx X Hb' Ob B E σ H):=λpins s σ H E I ⟨Hb',q⟩=>hb Hb' Ob pins s σ H E I q;refine GK hp hc hi hg hall hs pins s σ H E I ⟨O,ρ,S.env,i7.on hF hk S λds hF J H1 s1 wk=>?_⟩;have E1:=S.same s1;refine⟨λi m σ H=>m=ds.length-i/\i<=ds.length/\∃O' ρ',dU X.K (lb H1 O Ob) Ob O' H ρ' σ/\iu g B k (ds.drop i) ρ'=r,
  ⟨ds.length,by rw[N9],Nc _,O,ρ,E1.loop,by rw[NV];exact hF⟩,?_⟩
 rintro i m σ' H' ⟨rfl,hi',O',ρ',E',hr⟩;have sD:=Dc E1.base E'.base;by_cases hlt:i<ds.length
 ·right;obtain⟨go,yl⟩:=(wk H' O' i E'.env.all sD).1 ds[i] (by simp[hlt]);refine⟨go,λσ2 H2=>ds.length-(i+1)=ds.length-(i+1)/\i+1<=ds.length/\∃O' ρ',dU X.K (lb H1 O Ob) Ob O' H2 ρ' σ2/\iu g B k (ds.drop (i+1)) ρ'=r,λσ2 H2 z=>⟨ds.length-(i+1),by omega,z⟩,λx H2 y=>?_⟩;obtain⟨s2,dx⟩:=yl x H2 y;have E':=E'.same s2;rw[Oc hlt]at hr;cases hg':g ds[i] ρ' with
  |none=>
   have hr':(rO (g ds[i] ρ')).bind (λρ1=>B ⟨iu g B k (ds.drop (i+1)),k.nx,iu g B k (ds.drop (i+1)),k.ex⟩ ρ1)=r:=hr;rw[hg']at hr';exact absurd hr'.symm hk.ne
  |some ρ1=>
   have hr':(rO (g ds[i] ρ')).bind (λρ1=>B ⟨iu g B k (ds.drop (i+1)),k.nx,iu g B k (ds.drop (i+1)),k.ex⟩ ρ1)=r:=hr;rw[hg']at hr';refine⟨O',ρ',ds[i],ρ1,E'.env,dx,hg',λσ3 E3 own=>?_⟩;have E3':dU X.K (lb H1 O Ob) Ob O' H2 ρ1 σ3:=E'.after E3 own;exact⟨lb H1 O Ob,O',ρ1,⟨iu g B k (ds.drop (i+1)),k.nx,iu g B k (ds.drop (i+1)),k.ex⟩,r,E3',hr',hk.loop E1.base (λO4 ρ4 σ4 H4 E4 z=>⟨rfl,hlt,O4,ρ4,E4,z⟩) (λO4 ρ4 σ4 H4 E4 z=>⟨rfl,hlt,O4,ρ4,E4,z⟩) rfl rfl rfl rfl⟩
 ·left;have ei:i=ds.length:=by omega
  subst ei;refine⟨(wk H' O' ds.length E'.env.all sD).2 rfl,?_⟩;rw[Of]at hr;exact hk.nx O' ρ' σ' H' (E'.back E1.base) hr
end
end TG
namespace TG
open PySem PySem.Spec L2
variable[bd]
theorem dU.setO{K:PD}{Hb:Hp}{Ob O:List QL}{H:Hp}{ρ:av}{σ:St}(E:dU K Hb Ob O H ρ σ){i:Nat}{d d':D}{a:QL}{o:HO}(hi:ρ[i]?=some (some (.own d)))(ha:σ[i]?=some (some (.ref a)))(m:sM o)(new:eO K (upd H a o) O a d'):
  dU K Hb Ob O (upd H a o) (ρ.set i (some (.own d'))) σ:=by
 obtain⟨a',ha',haO,hat⟩:=E.env.own i d hi;rw[ha]at ha';cases ha';obtain⟨m1,m2⟩:=E.mine i d a hi ha;have s:bE (hid H O) (hid (upd H a o) O):=jg haO;have own:∀(j:Nat) ys,(ρ.set i (some (.own d')))[j]?=some (some (.own ys))->∃ys',ρ[j]?=some (some (.own ys')):=λj ys q=>by
  rcases bq q with⟨hj,_⟩|⟨_,q⟩
  ·rw[hj];exact⟨d,hi⟩
  ·exact⟨ys,q⟩
 refine⟨⟨λj d1 e=>?_,λj ys e=>?_,λj l ys zs b q1 q2 q3 q4=>?_,E.env.all.upd haO m⟩,⟨λb u h=>?_,E.base.sub,E.base.new⟩,λj ys b q1 q2=>?_,λj dn q=>?_⟩
 ·rcases bq e with⟨_,q⟩|⟨ne,q⟩
  ·cases q
  ·obtain⟨w,q1,q2⟩:=E.env.val j d1 q;exact⟨w,q1,q2.mono s⟩
 ·rcases bq e with⟨hj,q⟩|⟨ne,q⟩
  ·cases q;rw[hj];exact⟨a,ha,haO,new⟩
  ·obtain⟨b,q1,q2,q3⟩:=E.env.own j ys q;have nb:b≠a:=λz=>ne (E.env.one j i ys d a q hi (by rw[<-z];exact q1) ha);exact⟨b,q1,q2,q3.mono (by rw[aQ nb]) s⟩
 ·obtain⟨_,q1'⟩:=own j ys q1;obtain⟨_,q2'⟩:=own l zs q2;exact E.env.one j l _ _ b q1' q2' q3 q4
 ·have nb:b≠a:=λz=>by rw[z,m1]at h;cases h
  rw[aQ nb];exact E.base.same b u h
 ·obtain⟨ys',q⟩:=own j ys q1;exact E.mine j ys' b q q2
 ·have q:ρ[j]?=some (some (.nest dn)):=by
   rcases bq q with⟨_,z⟩|⟨_,z⟩
   ·cases z
   ·exact z
  refine(E.nst j dn q).to rfl s (λb q1 q2 q3 q4 _=>⟨aQ λz=>q4 i d hi (by rw[z];exact ha),q1,q2,λl d1 w=>?_⟩) λl d1 w=>?_
  ·obtain⟨_,w'⟩:=own l d1 w;exact q4 l _ w'
  ·rcases bq w with⟨_,z⟩|⟨_,z⟩
   ·cases z
   ·exact⟨d1,z⟩
theorem dU.setNew{K:PD}{Hb:Hp}{Ob O:List QL}{H H':Hp}{ρ:av}{σ:St}(E:dU K Hb Ob O H ρ σ){i:Nat}{d:D}{p:QL}(hi:i<σ.length)(sm:bE H H')(hp:H p=none)(m:∃o,H' p=some o/\sM o)(new:eO K H' (p::O) p d):
  dU K Hb Ob (p::O) H' (ρ.set i (some (.own d))) (σ.set i (some (.ref p))):=by
 have hpO:p∉O:=E.env.all.not hp;have s:bE (hid H O) (hid H' (p::O)):=λb o h=>by
  unfold hid at h ⊢;by_cases hb:b∈O
  ·rw[if_pos hb]at h;cases h
  ·rw[if_neg hb]at h;have ne:=bg h hp;rw[if_neg (by intro z;rcases List.mem_cons.mp z with z|z;exact ne z;exact hb z)];exact sm _ _ h
 have other:∀(j:Nat) xs,ρ[j]?=some (some (.own xs))->σ[j]?≠some (some (.ref p)):=λj xs e z=>by
  obtain⟨a,e1,e2,e3⟩:=E.env.own j xs e;rw[z]at e1;cases e1;obtain⟨o,e3⟩:=e3.some;rw[hp]at e3;cases e3
 refine⟨⟨λj d' e=>?_,λj xs e=>?_,λj k xs ys a e1 e2 e3 e4=>?_,⟨(E.env.all.same sm).1,λa ha=>?_⟩⟩,⟨E.base.same.trans sm,λa ha=>MX _ (E.base.sub a ha),λa ha=>?_⟩,λj xs a e1 e2=>?_,λj dn e=>?_⟩
 ·rcases bq e with⟨_,q⟩|⟨ne,q⟩
  ·cases q
  ·obtain⟨v,q1,q2⟩:=E.env.val j d' q;exact⟨v,by rw[M0 (Ne.symm ne)];exact q1,q2.mono s⟩
 ·rcases bq e with⟨hj,q⟩|⟨ne,q⟩
  ·cases q;rw[hj];exact⟨p,MZ hi,MV,new⟩
  ·obtain⟨a,q1,q2,q3⟩:=E.env.own j xs q;obtain⟨o,ho⟩:=q3.some;exact⟨a,by rw[M0 (Ne.symm ne)];exact q1,MX _ q2,q3.mono (qM sm ho) s⟩
 ·rcases bq e1 with⟨hj,q1⟩|⟨nj,q1⟩
  ·rcases bq e2 with⟨hk,q2⟩|⟨nk,q2⟩
   ·exact hj.trans hk.symm
   ·rw[hj,MZ hi]at e3;cases e3;rw[M0 (Ne.symm nk)]at e4;exact absurd e4 (other k ys q2)
  ·rcases bq e2 with⟨hk,q2⟩|⟨nk,q2⟩
   ·rw[hk,MZ hi]at e4;cases e4;rw[M0 (Ne.symm nj)]at e3;exact absurd e3 (other j xs q1)
   ·rw[M0 (Ne.symm nj)]at e3;rw[M0 (Ne.symm nk)]at e4;exact E.env.one j k xs ys a q1 q2 e3 e4
 ·rcases List.mem_cons.mp ha with rfl|ha
  ·exact m
  ·exact(E.env.all.same sm).2 a ha
 ·rcases List.mem_cons.mp ha with rfl|ha
  ·exact .inr (E.base.same.free hp)
  ·exact E.base.new a ha
 ·rcases bq e1 with⟨hj,q1⟩|⟨nj,q1⟩
  ·rw[hj,MZ hi]at e2;cases e2;exact⟨E.base.same.free hp,λz=>hpO (E.base.sub p z)⟩
  ·rw[M0 (Ne.symm nj)]at e2;exact E.mine j xs a q1 e2
 ·rcases bq e with⟨_,q⟩|⟨ne,q⟩
  ·cases q
  ·refine(E.nst j dn q).to (M0 (Ne.symm ne)) s (λb q1 q2 q3 q4 ⟨o,ho⟩=>⟨by rw[ho,sm _ _ ho],MX _ q1,q2,λl d1 w=>?_⟩) λl d1 w=>?_
   ·rcases bq w with⟨hl,z⟩|⟨nl,z⟩
    ·rw[hl,MZ hi];intro z;cases z;rw[hp]at ho;cases ho
    ·rw[M0 (Ne.symm nl)];exact q4 l d1 z
   ·rcases bq w with⟨_,z⟩|⟨_,z⟩
    ·cases z
    ·exact⟨d1,z⟩
def Kk(X:Cx)(F:FX):TE:=λσ H Q=>∃O ρ,d9 X.K O H ρ σ/\i7 X σ O H (F ρ) λd=>∀p H',bE H H'->H p=none->(∃o,H' p=some o/\sM o)->eO X.K H' (p::O) p d->Q (.ref p) H'
def FN(X:Cx)(e:QX)(F:FX):Prop:=PE X e (Kk X F)
section
variable{X:Cx}{pos:Pos}
theorem wW{K:PD}{H:Hp}{O:List QL}{p:QL}{ds:List D}{vs:List V}(hp:H p=none)(d:bj K (hid H O) ds vs):eO K (upd H p (.lst vs)) (p::O) p (.lst ds):=⟨_,vs,bb,rfl,d.mono (rF hp)⟩
theorem K6{es:List QX}{g:av->R (List D)}(h:FA X es g):FN X (.List es pos) (gh g):=
 PE.weak (sG h) λσ H Q ⟨O,ρ,E,hF⟩=>⟨O,ρ,E,(i7.bind hF).imp λxs hF vs H1 s1 d1=>by
  obtain⟨d,e,q⟩:=i7.rO hF;obtain⟨hz,e⟩:=bX e;subst e;refine⟨by rw[<-d1.length];exact eL hz,λp hp=>?_⟩;exact q p _ (s1.trans (cf hp _)) (s1.free hp) ⟨_,bb,trivial⟩ (wW hp d1)⟩
def tG:FX:=λ_=>.ok (.dct [] [])
theorem IE:FN X (.Dict [] [] pos) tG:=PE.weak Bv λσ H Q ⟨O,ρ,E,q⟩ p hp=>q p _ (cf hp _) hp ⟨_,bb,trivial⟩ ⟨_,[],bb,cY.mpr rfl,.inr ⟨[],rfl,rfl,rfl⟩⟩
def li(i:Nat)(f:FX):cx:=λk ρ=>sL (f ρ) k ρ λd=>k.nx (ρ.set i (some (.own d)))
theorem tN{st:QZ}{f:FX}{i:Nat}(hi:i<X.N.length)(h:PS X st (Cj (Kk X f) (uM i))):FS X st (li i f):=λHb Ob pins s σ H E I ⟨O,ρ,k,r,S,hF,hk⟩=>
 h pins s σ H E I ⟨O,ρ,S.env,i7.on hF hk S λd e p H1 s1 hp m o=>hk.nx _ _ _ H1 (S.setNew (by rw[I.len];exact hi) s1 hp m o) e⟩
theorem LI{i:Nat}{x:Str}{e:QX}{f:FX}{pos':Pos}(hN:X.N.Nodup)(hi:X.N[i]?=some x)(hx:Loc X.env.scope x)(he:FN X e f)(hs:swapsWith e (some (.Name x pos')) pos.line X.env=pure false:=by rfl)(hf:X.fn x=true\/X.env.scope.names.lookup x=some .local:=by first|exact .inl rfl|exact .inr rfl|assumption):
  FS X (.Assign [.Name x pos'] e pos) (li i f):=tN (List.getElem?_eq_some_iff.mp hi).1 (yu hN hi hx he hs hf)
end
theorem Fh{X:Cx}{F:FX}:∀σ H Q,Kk X F σ H Q->Ly X F σ H Q:=λσ H Q ⟨O,ρ,E,hF⟩=>⟨O,ρ,E,hF.imp λd q D H' total acc e sm hD hD' dn=>by
 subst e;exact q D H' sm hD ⟨_,hD',trivial⟩ ⟨_,acc,hD',rfl,dn⟩⟩
theorem JD{X:Cx}{elt tg iter:QX}{ifs:List QX}{scope:QV}{N:List Str}{ix:List (Option Nat)}{G:av->R (List D)}{g:GF}{C:av->R Bool}{Fe:FX}{i:Nat}{y:Str}{lpos py spos:Pos}(hN:X.N.Nodup)(hi':X.N[i]?=some y)(hx:Loc X.env.scope y)
  (hc:X.calm=true) (ok:iK X scope N ix) (tk:qv ix g) (hi:FI X tg iter G) (hb:HN X scope N tg elt ifs g C Fe)
  (hsw:swapsWith (.ListComp elt [⟨tg,iter,ifs,0⟩] scope lpos) (some (.Name y py)) spos.line X.env=pure true:=by rfl)
  (hs:∀x,Q8 iter X.env x=pure x:=by intro _;rfl)
  (hf:X.fn y=true\/X.env.scope.names.lookup y=some .local:=by first|exact .inl rfl|exact .inr rfl|assumption):
  FS X (.Assign [.Name y py] (.ListComp elt [⟨tg,iter,ifs,0⟩] scope lpos) spos) (li i (gg ix G g C Fe)):=
 tN (List.getElem?_eq_some_iff.mp hi').1 (PS.weak (FC hN hi' hx hc ok.cell ok.kind ok.names ok.free ok.ix hi hb.k hsw hs hf) λE σ H q=>Dl tk σ H _ (Fh σ H _ q))
theorem Md{X:Cx}{elt tg iter:QX}{ifs:List QX}{scope:QV}{pos:Pos}{N:List Str}{ix:List (Option Nat)}{G:av->R (List D)}{g:GF}{C:av->R Bool}{Fe:FX}(hc:X.calm=true)(ok:iK X scope N ix)(tk:qv ix g)(hi:FI X tg iter G)(hb:HN X scope N tg elt ifs g C Fe)
  (hs:∀x,Q8 iter X.env x=pure x:=by intro _;rfl):FN X (.ListComp elt [⟨tg,iter,ifs,0⟩] scope pos) (gg ix G g C Fe):=
 PE.weak (FR hc ok.cell ok.kind ok.names ok.free ok.ix hi hb.k hs) λσ H Q q=>Dl tk σ H _ (Fh σ H _ q)
def yf(i:Nat)(u:List D->List D->Option (List D))(f:av->R (List D)):cx:=λk ρ=>match ρ[i]? with
 |some (some (.own (.lst xs)))=>sL (f ρ) k ρ λds=>(rO (u xs ds)).bind λys=>k.nx (ρ.set i (some (.own (.lst ys))))
 |_=>un
def Dt(K:PD)(r:V->List V->Hp->VK->Prop)(u:List D->List D->Option (List D)):Prop:=
 ∀(H:Hp)(O:List QL)(a:QL)(xs ys as:List D)(ws vs:List V)(Q:VK),dW H O->a∈O->H a=some (.lst ws)->bj K (hid H O) xs ws->bj K (hid H O) as vs->u xs as=some ys->(∀ws' v,bj K (hid H O) ys ws'->Q v (upd H a (.lst ws')))->r (.ref a) vs H Q
theorem wX{K:PD}{H:Hp}{O:List QL}{a:QL}{ys:List D}{ws:List V}(ha:a∈O)(h:bj K (hid H O) ys ws):eO K (upd H a (.lst ws)) O a (.lst ys):=⟨_,ws,bb,rfl,h.mono (jg ha)⟩
theorem Mj{X:Cx}{i:Nat}{x m:Str}{id:String}{r:V->List V->Hp->VK->Prop}{u:List D->List D->Option (List D)}{e:QX}{es:List QX}{f:av->R (List D)}{npos apos cpos pos:Pos}(slot:Slot "list" m id)(hty:typeOf (.builtin id)=pure (.type "method_descriptor"))(hm:LV X id r)(ok:Dt X.K r u)(hx:PE X (.Name x npos) (xn i))(he:FA X (e::es) f)
  (hbase:RF (.Name x npos) m X.env (eval (.Name x npos) X.env)=eval (.Name x npos) X.env:=by rfl)
  (hfew:((backTo cpos (QY (e::es) X.env)).all (fun x=>!x.1) && (backToKw cpos (Ri [] X.env)).all (fun x=>x.1.isSome)
   && decide ((e::es:List QX).length+([]:List RG).length+(if([]:List RG).isEmpty then 0 else 1)<30))=true:=by rfl)
  (hline:(apos.endLine==cpos.line)=true:=by rfl) (hs:QY (e::es) X.env=(false,eval e X.env)::QY es X.env:=by rfl) (hplain:(backTo cpos (QY es X.env)).any (·.1)=false:=by rfl)
  (hsw:swapsWith (.Call (.Attribute (.Name x npos) m apos) (e::es) [] cpos) none pos.line X.env=pure false:=by rfl):
  FS X (.Expr (.Call (.Attribute (.Name x npos) m apos) (e::es) [] cpos) pos) (yf i u f):=λHb Ob pins s σ H E I ⟨O,ρ,k,rr,S,hF,hk⟩=>by
 unfold yf at hF;split at hF
 ·rename_i xs hxs;obtain⟨a,ha,haO,hat⟩:=S.env.own i _ hxs;obtain⟨o,vs0,ho,eo,dn⟩:=hat;subst eo;refine zf (E9 F.plainAttrs_list slot hty hm hx he hbase hfew hline hs hplain) hsw pins s σ H E I ⟨.ref a,ha,.inl ⟨rfl,vs0,n0.of ho⟩,O,ρ,S.env,i7.on hF hk S λds hr vs H1 s1 d1=>?_⟩;have S1:=S.same s1;cases hu1:u xs ds with
  |none=>rw[hu1]at hr;exact absurd hr.symm hk.ne
  |some ys=>
   rw[hu1]at hr;exact ok H1 O a xs ys ds vs0 vs _ S1.env.all haO (s1 _ _ ho) (dn.mono (cy s1)) d1 hu1 λws' v new=>hk.nx O _ σ _ (S1.setO hxs ha trivial (wX haO new)) hr
 ·exact absurd hF.symm hk.ne
def fE(xs:List D)(ds:List D):Option (List D):=match ds with
 |[y]=>if small (xs.length+1)then some (xs++[y])else none
 |_=>none
theorem eS{K:PD}:Dt K zA fE:=λH O a xs ys as ws vs Q hO haO ha dx da hu q=>by
 unfold fE at hu;split at hu
 ·rename_i y;obtain⟨h1,h2⟩:=bX hu;subst h2;obtain⟨v,rfl,dv⟩:=da.one
  have:=eL h1
  rw[dx.length]at this;exact⟨a,ws,v,rfl,rfl,ha,by omega,q _ _ (dx.snoc dv)⟩
 ·cases hu
def frz(i:Nat)(ρ:av):av:=match ρ[i]? with
 |some (some (.own d))=>setV i d ρ
 |_=>ρ
theorem d9.frz{K:PD}{O:List QL}{H:Hp}{ρ:av}{σ:St}(E:d9 K O H ρ σ)(i:Nat):∃O',d9 K O' H (frz i ρ) σ/\(∀b∈O',b∈O)/\∀b∈O,b∉O'->∃d,ρ[i]?=some (some (.own d))/\σ[i]?=some (some (.ref b)):=by
 unfold TG.frz;split
 ·rename_i d hd;obtain⟨a,ha,haO,hat⟩:=E.own i d hd;have sub:∀b∈O.filter (λb=>decide (b≠a)),b∈O:=λb hb=>(List.mem_filter.mp hb).1;have s:bE (hid H O) (hid H (O.filter λb=>decide (b≠a))):=iY sub;have na:a∉O.filter λb=>decide (b≠a):=λz=>absurd rfl (of_decide_eq_true (List.mem_filter.mp z).2);refine⟨O.filter λb=>decide (b≠a),⟨λj d' e=>?_,λj ys e=>?_,λj l ys zs b q1 q2 q3 q4=>?_,⟨E.all.1,λb hb=>E.all.2 b (sub b hb)⟩⟩,sub,λb hb nb=>?_⟩
  ·rcases bq e with⟨hj,q⟩|⟨ne,q⟩
   ·cases q;rw[hj];exact⟨.ref a,ha,hat.den s na⟩
   ·obtain⟨w,q1,q2⟩:=E.val j d' q;exact⟨w,q1,q2.mono s⟩
  ·rcases bq e with⟨_,q⟩|⟨ne,q⟩
   ·cases q
   ·obtain⟨b,q1,q2,q3⟩:=E.own j ys q;have nb:b≠a:=λz=>ne (E.one j i ys d a q hd (by rw[<-z];exact q1) ha);exact⟨b,q1,List.mem_filter.mpr ⟨q2,decide_eq_true nb⟩,q3.mono rfl s⟩
  ·rcases bq q1 with⟨_,q⟩|⟨_,q⟩
   ·cases q
   ·rcases bq q2 with⟨_,q'⟩|⟨_,q'⟩
    ·cases q'
    ·exact E.one j l ys zs b q q' q3 q4
  ·by_cases z:b=a
   ·exact⟨d,hd,by rw[z];exact ha⟩
   ·exact absurd (List.mem_filter.mpr ⟨hb,decide_eq_true z⟩) nb
 ·exact⟨O,E,λ_ z=>z,λb hb nb=>absurd hb nb⟩
theorem dU.frz{K:PD}{Hb:Hp}{Ob O:List QL}{H:Hp}{ρ:av}{σ:St}(E:dU K Hb Ob O H ρ σ)(i:Nat):∃O',dU K Hb Ob O' H (frz i ρ) σ:=by
 obtain⟨O',E',sub,gone⟩:=E.env.frz i;refine⟨O',E',⟨E.base.same,λa ha=>?_,λa ha=>E.base.new a (sub a ha)⟩,λj xs a q1 q2=>?_,λj dn q1=>?_⟩
 ·by_cases z:a∈O'
  ·exact z
  ·obtain⟨d,e1,e2⟩:=gone a (E.base.sub a ha) z;exact absurd ha (E.mine i d a e1 e2).2
 ·have q:ρ[j]?=some (some (.own xs)):=by
   unfold TG.frz at q1;split at q1
   ·rcases bq q1 with⟨_,q⟩|⟨_,q⟩
    ·cases q
    ·exact q
   ·exact q1
  exact E.mine j xs a q q2
 ·have bk:∀(l:Nat) x,(TG.frz i ρ)[l]?=some (some x)->(∀d,x≠.val d)->ρ[l]?=some (some x):=λl x e nv=>by
   unfold TG.frz at e;split at e
   ·rcases bq e with⟨_,q⟩|⟨_,q⟩
    ·cases q;exact absurd rfl (nv _)
    ·exact q
   ·exact e
  refine(E.nst j dn (bk j _ q1 (λ_ z=>nomatch z))).to rfl (iY sub) (λb w1 w2 w3 w4 _=>⟨rfl,?_,w2,λl d1 w=>w4 l d1 (bk l _ w (λ_ z=>nomatch z))⟩) λl d1 w=>⟨d1,bk l _ w (λ_ z=>nomatch z)⟩
  by_cases z:b∈O'
  ·exact z
  ·obtain⟨d,e1,e2⟩:=gone b w1 z;exact absurd e2 (w4 i d e1)
def ic(i:Nat)(F:cx):cx:=λk ρ=>F k (frz i ρ)
theorem Ke{X:Cx}{st:List QZ}{F:cx}(i:Nat)(h:xO X st F):xO X st (ic i F):=λHb Ob=>AY.weak (h Hb Ob) λE σ H ⟨O,ρ,k,r,S,hF,hk⟩=>by
 obtain⟨O',S'⟩:=S.frz i;exact⟨O',TG.frz i ρ,k,r,S',hF,hk⟩
def frzs(is:List Nat)(ρ:av):av:=is.foldl (λρ i=>frz i ρ) ρ
theorem d9.frzs{K:PD}{H:Hp}{σ:St}:∀(is:List Nat){O:List QL}{ρ:av},d9 K O H ρ σ->∃O',d9 K O' H (frzs is ρ) σ
 |[],O,_,E=>⟨O,E⟩
 |i::is,_,_,E=>by
  obtain⟨O',E',_⟩:=E.frz i;exact d9.frzs is E'
def lA(is:List Nat)(f:av->R Bool):av->R Bool:=λρ=>Cu (f (frzs is ρ))
theorem JO{X:Cx}{e:QX}{f:av->R Bool}(is:List Nat)(h:FT X e f):FT X e (lA is f):=PT.weak h λσ H Q ⟨O,ρ,E,hF⟩=>by
 obtain⟨O',E'⟩:=E.frzs is;refine⟨O',TG.frzs is ρ,E',?_⟩;unfold lA at hF;cases hf:f (TG.frzs is ρ)with
 |error z=>rw[hf]at hF;exact hF.elim
 |ok d=>rw[hf]at hF;exact hF
end TG
namespace TG
open PySem PySem.Spec L2
variable[bd]
def Bs(K:PD)(n:Nat)(g:List D->R D):Sp:=λvs H Q E=>∃O ds,vs.length=n/\dW H O/\bj K (hid H O) ds vs/\match g ds with
 |.ok d=>∀v H',bE H H'->cQ K (hid H' O) d v->Q v H'
 |.error (some x)=>LQ K H O x E
 |.error none=>False
section
variable{X:Cx}{k:Nat}{f C:QL}{fd:Rm}{ps:List Str}{sp:Sp}{x m:Str}{p pos apos:Pos}{e o:QX}{es:List QX}{ta:TE}{t:TA}
theorem zL{pins:List (QL×Obj)}{σ:St}{H:Hp}{s:QU}{Q:VK}{E:XK}{us:List QI}{vs:List V}(F:nA X.prog X.w X.K X.mg X.base (nZ X.prog X.w) k f fd ps sp)(hr:iF k X.A)(hb:Binds X.K fd ps [])(hx:lH (nZ X.prog X.w) X σ E)
  (I:Inv X pins σ H s) (r:Vals vs us) (h:sp vs H Q E):QW (model X.prog X.w) X.A (call (.ref f) us) (EP X pins σ Q) X.xe s:=by
 have hl:(us++[]).length=ps.length:=by rw[Nf,<-r.length];exact F.len _ _ _ _ h
 have hb':=hb s us I.kIn hl;rw[Nf]at hb';refine wpAny_call (codeAny_mono (F.run X.A X.stack s H ⟨us,[]⟩ us vs Q E hr I.env0 hb' r h) λr s' hq=>?_);cases r with
 |error e=>exact hx pins H s e s' I hq
 |ok fl=>
  cases fl with
  |ret u=>exact I.after hq
  |next=>exact False.elim hq
  |brk=>exact False.elim hq
  |cont=>exact False.elim hq
def Dp(X:Cx)(sp:Sp)(t:TA):TE:=λσ H Q=>t σ H λvs H1=>∃E,lH (nZ X.prog X.w) X σ E/\sp vs H1 Q E
theorem By(F:nA X.prog X.w X.K X.mg X.base (nZ X.prog X.w) k f fd ps sp)(hr:iF k X.A)(hg:Gl X x)(hm:X.mg x=some (.ref f))(hk:PY X.K (.ref f)=true)(hb:Binds X.K fd ps [])
  (ha:PA X (e::es) t) (hdb:(x==("__debug__":Str))=false:=by decide) (he:QY (e::es) X.env=(false,eval e X.env)::QY es X.env:=by rfl) (hpl:(backTo pos (QY es X.env)).any (·.1)=false:=by rfl):
  PE X (.Call (.Name x p) (e::es) [] pos) (Dp X sp t):=by
 intro pins s σ H Q I h;refine Rq (zx I hg hm ?_ hdb);refine P8 (h₀:=X.base) I.ok.mod.kin hk (eQ (ha pos pins s σ H _ I h) λus s1 ⟨vs,H1,I1,r,E,hx,q⟩=>⟨I1.kIn,?_⟩) he hpl;exact zL F hr hb hx I1 r q
theorem AO{n:Nat}{g:List D->R D}{f:av->R (List D)}(hn:∀ds,g ds≠un->ds.length=n):∀σ H Q,tF X (fR g f) σ H Q->Dp X (Bs X.K n g) (L3 X f) σ H Q:=λσ H Q ⟨O,ρ,E,hF⟩=>
 ⟨O,ρ,E,(i7.bind hF).imp fun ds hF vs H1 s1 d1=>by
  cases hg:g ds with
  |ok d=>
   rw[hg]at hF;refine⟨E0,zP,O,ds,by rw[<-d1.length];exact hn ds (by rw[hg];intro z;cases z),E.all.same s1,d1,?_⟩;rw[hg];exact λv H2 s2 d2=>hF v H2 (s1.trans s2) d2
  |error z=>
   rw[hg]at hF;cases z with
   |none=>exact hF.elim
   |some x=>
    refine⟨zt X O H1 x,zG (HS.mono hF s1),O,ds,by rw[<-d1.length];exact hn ds (by rw[hg];intro z;cases z),E.all.same s1,d1,?_⟩;rw[hg];exact xg⟩
end
def Callee(P:QK)(w:QJ)(K:PD)(mg:Str->Option QI)(base:QN)(k:Nat)(x:Str)(ps:List Str)(g:List D->R D):Prop:=
 ∃f fd,nA P w K mg base (nZ P w) k f fd ps (Bs K ps.length g)/\Binds K fd ps []/\PY K (.ref f)=true/\mg x=some (.ref f)
def Ar(n:Nat)(g:List D->R D):Prop:=∀ds,g ds≠un->ds.length=n
theorem HL{X:Cx}{k k':Nat}{ps:List Str}{g:List D->R D}{h:av->R (List D)}{x:Str}{p pos:Pos}{e:QX}{es:List QX}
  (C:Callee X.prog X.w X.K X.mg X.base k x ps g) (hn:Ar ps.length g) (hr:iF k' X.A) (hk:k<=k') (ha:FA X (e::es) h) (hg:Gl X x:=by rfl)
  (hdb:(x==("__debug__":Str))=false:=by decide) (hns:(e::es).all noStar=true:=by rfl):
  FE X (.Call (.Name x p) (e::es) [] pos) (fR g h):=by
 obtain⟨f,fd,F,b,kp,m⟩:=C;exact PE.weak (By F (hr.mono hk) hg m kp b ha hdb (fg (Nu _ _ ▸ hns).1) (iZ (Nu _ _ ▸ hns).2)) (AO hn)
def K0:Ks:={nx:=λ_=>.ok .non}
def env0(n:Nat)(ds:List D):av:=ds.map (λd=>some (.val d))++List.replicate (n-ds.length) none
def bv(B:cx)(np n:Nat):List D->R D:=λds=>if ds.length=np then B K0 (env0 n ds)else un
theorem aY{B:cx}{np n:Nat}:Ar np (bv B np n):=λds h=>by
 unfold bv at h;split at h
 ·assumption
 ·exact absurd rfl h
theorem iX{n:Nat}{ds:List D}(i:Nat)(x:S)(e:(env0 n ds)[i]?=some (some x)):∃d,ds[i]?=some d/\x=.val d:=by
 unfold env0 at e;by_cases hi:i<ds.length
 ·rw[Nk (by rw[Nq];exact hi),Nm,NY hi]at e;have e':some (S.val ds[i])=some x:=Option.some.inj e;exact⟨ds[i],by rw[NY hi],(Option.some.inj e').symm⟩
 ·rw[Ni (by rw[Nq];omega),Nq,Nj]at e;split at e
  ·cases e
  ·cases e
theorem sK{K:PD}{O:List QL}{H:Hp}{N:List Str}{ds:List D}{vs:List V}(hO:dW H O)(h:bj K (hid H O) ds vs):d9 K O H (env0 N.length ds) (L2.start N vs):=by
 refine⟨λi d e=>?_,λi xs e=>?_,λi j xs ys a e=>?_,hO⟩
 ·obtain⟨d',e1,e2⟩:=iX i _ e;cases e2;obtain⟨v,e3,e4⟩:=h.get e1;refine⟨v,?_,e4⟩;unfold L2.start;have hi:i<vs.length:=(List.getElem?_eq_some_iff.mp e3).1;rw[Nk (by rw[Nq];exact hi),Nm,e3];rfl
 ·obtain⟨d',_,e2⟩:=iX i _ e;cases e2
 ·obtain⟨d',_,e2⟩:=iX i _ e;cases e2
section
variable{P:QK}{w:QJ}{K:PD}{mg:Str->Option QI}{base:QN}
structure BodyOk(P:QK)(w:QJ)(K:PD)(mg:Str->Option QI)(base:QN)(k:Nat)(N:List Str)(qual:Str)(st:QZ)(f:QL)(B:cx):Prop where
 h:∀(cdv:QI)(A:QT)(outer:List Env)(s:QU)(H:Hp)(E:XK),iF k (A.deeper (Qt qual (aB st) s.heap.objs.size f cdv))->Q7 (model P w) (A.deeper (Qt qual (aB st) s.heap.objs.size f cdv)) (Qt qual (aB st) s.heap.objs.size f cdv) (kG (nZ P w) P w K mg base N qual (aB st) f cdv A outer s H E).xe->
  xO (kG (nZ P w) P w K mg base N qual (aB st) f cdv A outer s H E) (fI st) B
theorem KZ{x qual:Str}{st:QZ}{f:QL}{fd:Rm}{N ps:List Str}{k:Nat}{sp:Sp}{CX:Bq}(F:xQ K x qual st f fd)(S:bw N ps (aB st))(len:∀vs H Q E,sp vs H Q E->vs.length=ps.length)
  (hbody:∀ (cdv:QI) (A:QT) (outer:List Env) (s:QU) (H:Hp) (vs:List V) (Q:VK) (E:XK),iF k (A.deeper (Qt qual (aB st) s.heap.objs.size f cdv))->sp vs H Q E ->
   ∃t,AY (kG CX P w K mg base N qual (aB st) f cdv A outer s H E) (fI st) t/\t {nx:=λ_ H'=>Q .non H',rt:=Q} (L2.start N vs) H):nA P w K mg base CX (k+1) f fd ps sp:=by
 obtain⟨oc,od,kV,doc,pm,an,cdv,ct,osl,rfl,lk,hcd⟩:=F.ex;exact FU lk hcd S len λA outer s H vs Q E hr hsp=>hbody cdv A outer s H vs Q E hr hsp
theorem vC{x qual:Str}{st:QZ}{f:QL}{fd:Rm}{N ps:List Str}{k:Nat}{B:cx}(F:xQ K x qual st f fd)(SC:bw N ps (aB st))(hb:BodyOk P w K mg base k N qual st f B):
  nA P w K mg base (nZ P w) (k+1) f fd ps (Bs K ps.length (bv B ps.length N.length)):=by
 refine KZ F SC (λvs H Q E h=>?_) λcdv A outer s H vs Q E hr h=>?_
 ·obtain⟨O,ds,h1,_⟩:=h;exact h1
 ·obtain⟨O,ds,h1,h2,h3,h4⟩:=h;have hl:ds.length=ps.length:=h3.length.trans h1;have e4:bv B ps.length N.length ds=B K0 (env0 N.length ds):=by unfold bv;rw[if_pos hl]
  rw[e4]at h4;refine⟨_,hb.h cdv A outer s H E hr PassesOwn.leaving H O,O,env0 N.length ds,K0,_,⟨sK h2 h3,⟨bE.refl H,λ_ z=>z,λa z=>.inl z⟩,λi xs a e=>?_,λi d e=>by obtain⟨d',_,e2⟩:=iX i _ e;cases e2⟩,rfl,?_⟩
  ·obtain⟨d',_,e2⟩:=iX i _ e;cases e2
  ·generalize B K0 (env0 N.length ds)=r at h4;refine⟨λz=>by rw[z]at h4;exact h4,λO' ρ' σ' H' S e=>?_,λO' ρ' σ' H' S e=>?_,λO' ρ' σ' H' S e=>?_,λd O' v H' e b dv=>?_,λO' ρ' σ' H' x S e=>?_⟩
   ·have e:(.ok .non:R D)=r:=e;subst e;exact h4 .non H' S.base.same (kN.mpr rfl)
   ·have e:(un:R D)=r:=e;subst e;exact h4.elim
   ·have e:(un:R D)=r:=e;subst e;exact h4.elim
   ·subst e;exact h4 v H' b.same (dv.mono (iY b.sub))
   ·have e:(.error (some x):R D)=r:=e;subst e;exact Cz h4 S.base.same S.base.sub
theorem bC{x qual:Str}{st:QZ}{f:QL}{fd:Rm}{N ps:List Str}{k:Nat}{B:cx}(F:xQ K x qual st f fd)(b:Binds K fd ps [])(m:mg x=some (.ref f))(SC:bw N ps (aB st))(hb:BodyOk P w K mg base k N qual st f B):
  Callee P w K mg base (k+1) x ps (bv B ps.length N.length):=⟨f,fd,vC F SC hb,b,F.kp,m⟩
theorem fG{x qual:Str}{st:QZ}{f:QL}{fd:Rm}{ps:List Str}(k:Nat)(F:xQ K x qual st f fd)(b:Binds K fd ps [])(m:mg x=some (.ref f)):Callee P w K mg base k x ps (λ_=>un):=by
 have no:∀vs H Q E,¬Bs K ps.length (λ_=>un) vs H Q E:=λvs H Q E ⟨O,ds,_,_,_,e⟩=>e;exact⟨f,fd,⟨λvs H Q E h=>absurd h (no vs H Q E),λA outer s H args us vs Q E _ _ _ _ h=>absurd h (no vs H Q E)⟩,b,F.kp,m⟩
end
theorem qK{K:PD}{T:String}(h1:P6 K (.type "NoneType") (.type T)=some (T=="NoneType"))(h2:P6 K (.type "bool") (.type T)=some (T=="bool"||T=="int"))(h3:P6 K (.type "int") (.type T)=some (T=="int"))(h4:P6 K (.type "str") (.type T)=some (T=="str"))
  (h5:P6 K (.type "tuple") (.type T)=some (T=="tuple")) (h6:P6 K (.type "list") (.type T)=some (T=="list")):xB K T:=λd hd=>by
 cases d with
 |dct _ _=>cases hd
 |obj _ _ _=>cases hd
 |exc _ _ _=>cases hd
 |non=>exact h1
 |bl _=>exact h2
 |int _=>exact h3
 |str _=>exact h4
 |tup _=>exact h5
 |lst _=>exact h6
theorem wc{K:PD}:xB K "int":=qK rfl rfl rfl rfl rfl rfl
theorem mq{K:PD}:xB K "bool":=qK rfl rfl rfl rfl rfl rfl
theorem wv{K:PD}:xB K "str":=qK rfl rfl rfl rfl rfl rfl
theorem qV{K:PD}:xB K "tuple":=qK rfl rfl rfl rfl rfl rfl
end TG
namespace TG
open PySem PySem.Spec L2
variable[bd]
section
variable{X:Cx}{a b c:QX}{fa fb fc:FX}{pos:Pos}
theorem Gf{r:V->Hp->VK->Prop}{g:D->Option D}(s:DH X.K r g):∀σ H Q,tF X (f1 g fa) σ H Q->Mg r (tF X fa) σ H Q:=λσ H Q ⟨O,ρ,E,hF⟩=>⟨O,ρ,E,(i7.bind hF).imp λa hF x H1 s1 d1=>by
 obtain⟨d,e,q⟩:=i7.rO hF;exact s a d x O H1 Q (E.all.same s1) e d1 λv H2 s2 d2=>q v H2 (s1.trans s2) d2⟩
def Hg(g g':D->D->Option D)(fa fb fc:FX):FX:=λρ=>(fa ρ).bind λx=>(fb ρ).bind λy=>(rO (g x y)).bind λz=>yj z ((fc ρ).bind λw=>rO (g' y w))
def Gs:D->Option D
 |.int i=>some (.int (-i))
 |_=>none
def C5(f:FX):FX:=f1 Gs f
theorem Ku(ha:FE X a fa):FE X (.UnaryOp .USub a pos) (C5 fa):=PE.weak (Iu Hc ha) (Gf λx d v O H Q _ e dv q=>by
 cases x with
 |int i=>cases e;exact⟨i,fj.mp dv,q _ H (bE.refl H) (fj.mpr rfl)⟩
 |_=>cases e)
def CI:D->Option D
 |.str x=>if small x.length then some (.str (Txt.upper x))else none
 |_=>none
def HB(f:FX):FX:=f1 CI f
def G0:D->Option D
 |.lst xs=>some (.lst xs.reverse)
 |.tup xs=>some (.tup xs.reverse)
 |_=>none
def K4(f:FX):FX:=f1 G0 f
end
end TG
namespace ZI
open PySem PySem.Spec PyProof.Rows
section
variable{prog:QK}{w:QJ}{A:QT}{E:QI->QU->Prop}{s:QU}
theorem yI{it t:QL}{i:Nat}{its:Array QI}{x:QI}{Q:QI->QU->Prop}(hit:s.heap.IsTupleIter it t i)(ht:s.heap.IsTuple t its)(hx:its[i]?=some x)
  (hQ:∀g,g.IsTupleIter it t (i+1)->Qj it s.heap g->Q x {s with heap:=g}):QW (model prog w) A (Builtin.SmallTypes.nextOf (.ref it)) Q E s:=by
 obtain⟨ob,h1,h2,h3⟩:=id hit;obtain⟨ol,g1,_,n,g2⟩:=ht;unfold Builtin.SmallTypes.nextOf;refine Q5 (Rz (name:=Str.ofString "__next__") hit.typeIs F.slot_tuple_iterator_next (RA F.slot_tuple_iterator_next hit.typeIs F.entry_tuple_iterator_next ?_ (F.args_tuple_iterator_next_1 _)));show QW _ _ (field (.ref it) 0 >>= _) _ _ s;refine Q5 (Rx h1 h3 (x:=.ref t) rfl ?_);show QW _ _ (if(Value.ref t==Value.none)=true then _ else _) _ _ s;rw[if_neg (show¬((Value.ref t==Value.none)=true)from λz=>M9 z)];show QW _ _ (field (.ref it) 1 >>= _) _ _ s;refine Q5 (Rx h1 h3 (x:=.int i 0) rfl ?_);show QW _ _ (seqItems? (.ref t) >>= _) _ _ s;refine Q5 (RO g1 g2 ?_);simp only[Nr,hx];refine Q5 (RP h1 h3 (by simp) (Q4 ⟨x,rfl,Q4 (hQ _ ⟨_,Qn _ h1 (Obj.isFreed_of_fields (Obj.data_mapFields h3 _)),(Obj.cls_mapFields ..).trans h2,by rw[Obj.data_mapFields h3];simp[rawInt]⟩ (Heap.SameBut.update ..))⟩))
theorem zY{it t:QL}{i:Nat}{its:Array QI}{Q:QI->QU->Prop}(hh:A.handled=none)(hit:s.heap.IsTupleIter it t i)(ht:s.heap.IsTuple t its)(hx:its[i]?=none)
  (hE:∀g e,Heap.ExtBut it s.heap g->(∃o,g.get? e=some o/\o.cls=.type "StopIteration")->E (.ref e) {s with heap:=g}):QW (model prog w) A (Builtin.SmallTypes.nextOf (.ref it)) Q E s:=by
 obtain⟨ob,h1,h2,h3⟩:=id hit;obtain⟨ol,g1,_,n,g2⟩:=ht;unfold Builtin.SmallTypes.nextOf;refine Q5 (Rz (name:=Str.ofString "__next__") hit.typeIs F.slot_tuple_iterator_next (RA F.slot_tuple_iterator_next hit.typeIs F.entry_tuple_iterator_next ?_ (F.args_tuple_iterator_next_1 _)));show QW _ _ (field (.ref it) 0 >>= _) _ _ s;refine Q5 (Rx h1 h3 (x:=.ref t) rfl ?_);show QW _ _ (if(Value.ref t==Value.none)=true then _ else _) _ _ s;rw[if_neg (show¬((Value.ref t==Value.none)=true)from λz=>M9 z)];show QW _ _ (field (.ref it) 1 >>= _) _ _ s;refine Q5 (Rx h1 h3 (x:=.int i 0) rfl ?_);show QW _ _ (seqItems? (.ref t) >>= _) _ _ s;refine Q5 (RO g1 g2 ?_);simp only[Nr,hx];refine Q5 (RL (Q5 (RP h1 h3 (by simp) ?_)));show QW _ _ (newExc (.type "StopIteration") [] >>= _) _ _ _;refine Q5 ?_;simp only[newExc,newTuple];refine Q5 (RC ?_ (by size_fits));refine Q5 (m:=firstArgMember _ _) (wpAny_of_eq (a:=Value.none) (by first|rfl|(simp only[firstArgMember];rfl)) ?_);refine RC ?_ (by size_fits);simp only[raiseNew];refine Q5 (wpAny_handled ?_)
 first|rw[show A.in1.handled=none from hh]|rw[hh]
 refine Q5 (Q4 (wpAny_throw ?_));exact hE _ _ (((Heap.SameBut.update ..).extBut.push _).push _) ⟨_,Ql _ rfl,rfl⟩
end
theorem Gv{prog:QK}{w:QJ}{A:QT}(hh:A.handled=none)(it t:QL)(hne:t≠it)(its:Array QI):Draws prog w A it [it,t] its.size (λi v=>its[i]?=some v) (λi h=>h.IsTupleIter it t i/\h.IsTuple t its)where
 live:=λi h ⟨⟨o,e,_⟩,_⟩=>⟨o,e⟩
 frame:=λi h h' ⟨x,y⟩ k=>⟨x.at λo e=>k it (by simp) o e,let ⟨o,e,r⟩:=y;⟨o,k t (by simp) o e,r⟩⟩
 item:=λi s Q E hi ⟨x,y⟩ hQ=>yI x y (Array.getElem?_eq_getElem hi) λg hg hs=>hQ _ g s.toks (Array.getElem?_eq_getElem hi) ⟨hg,let ⟨o,e,r⟩:=y;⟨o,(hs.2 t hne).trans e,r⟩⟩ hs
 done:=λs Q E ⟨x,y⟩ hE=>zY hh x y (by simp) hE
structure Apart(z TI TO i1 i2:QL)(fp1 fp2:List QL):Prop where
 a1:TI≠z
 a2:TO≠z
 a3:TI≠TO
 b1:z∉fp1
 b2:TO∉fp1
 b3:i2∉fp1
 c1:z∉fp2
 c2:TO∉fp2
 c3:i1∉fp2
 d1:TI≠i1
 d2:TI≠i2
 e1:i1∈fp1
 e2:i2∈fp2
section
variable{prog:QK}{w:QJ}{A:QT}{E:QI->QU->Prop}{s:QU}{z TI TO i1 i2:QL}{fp1 fp2:List QL}{n1 n2 i:Nat}{P1 P2:Nat->QI->Prop}{S1 S2:Nat->QN->Prop}{a b:QI}
theorem next_item{Q:QI->QU->Prop}(Ap:Apart z TI TO i1 i2 fp1 fp2)(D1:Draws prog w A i1 fp1 n1 P1 S1)(D2:Draws prog w A i2 fp2 n2 P2 S2)(hz:RQ s.heap z TI TO .none)(hTI:RT s.heap TI (.ref i1) (.ref i2))(hTO:RT s.heap TO a b)(st1:S1 i s.heap)(st2:S2 i s.heap)(l1:i<n1)(l2:i<n2)
  (hQ:∀ x y g tk,P1 i x->P2 i y->RQ g z TI TO (rawInt s.heap.objs.size)->RT g TO x y->S1 (i+1) g->S2 (i+1) g->RT g s.heap.objs.size x y->g.objs.size=s.heap.objs.size+1 ->
   (∀c o,c≠z->c≠TO->c≠i1->c≠i2->s.heap.get? c=some o->g.get? c=some o)->Q (.ref s.heap.objs.size) {s with heap:=g,toks:=tk}):
  QW (model prog w) A (Builtin.«zip.__next__» ⟨[.ref z],[]⟩) (λfin s'=>∃v,fin=.done (.ret v)/\Q v s') E s:=by
 have n1z:i1≠z:=λe=>Ap.b1 (e ▸ Ap.e1);have n2z:i2≠z:=λe=>Ap.c1 (e ▸ Ap.e2);have n1T:i1≠TO:=λe=>Ap.b2 (e ▸ Ap.e1);have n2T:i2≠TO:=λe=>Ap.c2 (e ▸ Ap.e2);show QW _ _ (field (.ref z) 2 >>= _) _ _ _;refine Q5 (Rx hz rfl (x:=.bool false) rfl ?_);show QW _ _ (field (.ref z) 3 >>= _) _ _ _;refine Q5 (Rx hz rfl (x:=.ref TI) rfl ?_);refine Q5 (RO hTI rfl ?_);show QW _ _ (Builtin.SmallTypes.ownedTupleIsFree (.ref z) >>= _) _ _ _;refine Q5 ?_;unfold Builtin.SmallTypes.ownedTupleIsFree;refine Q5 (Rx hz rfl (x:=.none) rfl (Q4 ?_));simp only[if_true];refine Q5 (RL ?_);refine Q5 (Rx hz rfl (x:=.ref TO) rfl ?_);refine Q5 (RU hz (by simp) λg1 hz1 k1=>?_);have hz1:RQ g1 z TI TO .ellipsis:=hz1;refine Q5 ?_;simp only[Og,List.zipIdx_nil,NP,List.forIn_nil];refine Q5 (Q5 (RV ?_));show QW _ _ (Builtin.SmallTypes.nextOf (.ref i1) >>= _) _ _ _;have q1:S1 i g1:=D1.frame _ _ _ st1 λb hb o e=>k1.extBut _ _ (λz'=>Ap.b1 (z' ▸ hb)) e;refine Q5 (D1.item i {s with heap:=g1} _ _ l1 q1 λx g2 tk2 p1 q2 k2=>Q4 ?_);have t2:RT g2 TO a b:=k2.extBut _ _ n1T.symm (k1.extBut _ _ Ap.a2 hTO);refine Q5 (RO t2 rfl ?_);refine Q5 (RW t2 λg3 t3 k3=>?_);have t3:RT g3 TO x b:=t3;refine Q5 (RX (Q4 ?_));refine Q5 (Q5 (RV ?_));show QW _ _ (Builtin.SmallTypes.nextOf (.ref i2) >>= _) _ _ _;have q3:S2 i g3:=D2.frame _ _ _ st2 λb hb o e=>k3.extBut _ _ (λz'=>Ap.c2 (z' ▸ hb)) (k2.extBut _ _ (λz'=>Ap.c3 (z' ▸ hb)) (k1.extBut _ _ (λz'=>Ap.c1 (z' ▸ hb)) e));refine Q5 (D2.item i {s with heap:=g3,toks:=tk2} _ _ l2 q3 λy g4 tk4 p2 q4 k4=>Q4 ?_);have t4:RT g4 TO x b:=k4.extBut _ _ n2T.symm t3;refine Q5 (RO t4 rfl ?_);refine Q5 (RW t4 λg5 t5 k5=>?_);have t5:RT g5 TO x y:=t5;refine Q5 (RX (Q4 (Q4 ?_)));refine Q5 (RO t5 rfl ?_);refine Q5 (RY ?_);have hsz:g5.objs.size=s.heap.objs.size:=by rw[k5.1,k4.1,k3.1,k2.1,k1.1]
 have hz5:RQ g5 z TI TO .ellipsis:=k5.extBut _ _ Ap.a2.symm (k4.extBut _ _ n2z.symm (k3.extBut _ _ Ap.a2.symm (k2.extBut _ _ n1z.symm hz1)));have k15:∀c o,c≠z->c≠TO->c≠i1->c≠i2->s.heap.get? c=some o->g5.get? c=some o:=λc o c1 c2 c3 c4 e=>k5.extBut _ _ c2 (k4.extBut _ _ c4 (k3.extBut _ _ c2 (k2.extBut _ _ c3 (k1.extBut _ _ c1 e))));have r1:S1 (i+1) g5:=D1.frame _ _ _ q2 λb hb o e=>k5.extBut _ _ (λz'=>Ap.b2 (z' ▸ hb)) (k4.extBut _ _ (λz'=>Ap.b3 (z' ▸ hb)) (k3.extBut _ _ (λz'=>Ap.b2 (z' ▸ hb)) e));have r2:S2 (i+1) g5:=D2.frame _ _ _ q4 λb hb o e=>k5.extBut _ _ (λz'=>Ap.c2 (z' ▸ hb)) e;have lz:z<g5.objs.size:=Qh hz5;show QW _ _ (Builtin.SmallTypes.ownedTupleHandOut (.ref z) (.ref g5.objs.size) >>= _) _ _ _;refine Q5 ?_;unfold Builtin.SmallTypes.ownedTupleHandOut;have hz6:RQ (g5.push {cls:=.type "tuple",data:=.seq #[x,y]}) z TI TO .ellipsis:=Qk _ hz5;refine Q5 (RU hz6 (by simp) λg7 hz7 k7=>?_);have hz7:RQ g7 z TI TO (rawInt g5.objs.size):=hz7;refine RU hz7 (by simp) λg8 hz8 k8=>?_;have hz8:RQ g8 z TI TO (rawInt g5.objs.size):=hz8;have up:∀c o,c≠z->g5.get? c=some o->g8.get? c=some o:=λc o c1 e=>k8.extBut _ _ c1 (k7.extBut _ _ c1 (Qk _ e));have t8:RT g8 g5.objs.size x y:=k8.extBut _ _ (M1 lz) (k7.extBut _ _ (M1 lz) (Ql _ rfl));have s8:g8.objs.size=g5.objs.size+1:=by rw[k8.1,k7.1,Qm]
 rw[hsz]at hz8 t8 s8;refine Q4 ⟨_,rfl,?_⟩;show Q (.ref g5.objs.size) _;rw[hsz];exact hQ x y g8 tk4 p1 p2 hz8 (up _ _ Ap.a2 t5) (D1.frame _ _ _ r1 λb hb o e=>up b o (λz'=>Ap.b1 (z' ▸ hb)) e) (D2.frame _ _ _ r2 λb hb o e=>up b o (λz'=>Ap.c1 (z' ▸ hb)) e) t8 s8 λc o c1 c2 c3 c4 e=>up c o c1 (k15 c o c1 c2 c3 c4 e)
theorem next_end{Q:Fin->QU->Prop}(Ap:Apart z TI TO i1 i2 fp1 fp2)(D1:Draws prog w A i1 fp1 n1 P1 S1)(D2:Draws prog w A i2 fp2 n2 P2 S2)(hz:RQ s.heap z TI TO .none)(hTI:RT s.heap TI (.ref i1) (.ref i2))(hTO:RT s.heap TO a b)(st1:S1 i s.heap)(st2:S2 i s.heap)(hend:i=n1\/(i<n1/\i=n2))
  (hE:∀g e tk,(∀c o,c≠z->c≠TO->c≠i1->c≠i2->s.heap.get? c=some o->g.get? c=some o)->(∃o,g.get? e=some o/\o.cls=.type "StopIteration")->E (.ref e) {s with heap:=g,toks:=tk}):
  QW (model prog w) A (Builtin.«zip.__next__» ⟨[.ref z],[]⟩) Q E s:=by
 have n1z:i1≠z:=λe=>Ap.b1 (e ▸ Ap.e1);have n2z:i2≠z:=λe=>Ap.c1 (e ▸ Ap.e2);have n1T:i1≠TO:=λe=>Ap.b2 (e ▸ Ap.e1);show QW _ _ (field (.ref z) 2 >>= _) _ _ _;refine Q5 (Rx hz rfl (x:=.bool false) rfl ?_);show QW _ _ (field (.ref z) 3 >>= _) _ _ _;refine Q5 (Rx hz rfl (x:=.ref TI) rfl ?_);refine Q5 (RO hTI rfl ?_);show QW _ _ (Builtin.SmallTypes.ownedTupleIsFree (.ref z) >>= _) _ _ _;refine Q5 ?_;unfold Builtin.SmallTypes.ownedTupleIsFree;refine Q5 (Rx hz rfl (x:=.none) rfl (Q4 ?_));simp only[if_true];refine Q5 (RL ?_);refine Q5 (Rx hz rfl (x:=.ref TO) rfl ?_);refine Q5 (RU hz (by simp) λg1 hz1 k1=>?_);have hz1:RQ g1 z TI TO .ellipsis:=hz1;refine Q5 ?_;simp only[Og,List.zipIdx_nil,NP,List.forIn_nil];refine Q5 (Q5 (RV ?_));show QW _ _ (Builtin.SmallTypes.nextOf (.ref i1) >>= _) _ _ _;have q1:S1 i g1:=D1.frame _ _ _ st1 λb hb o e=>k1.extBut _ _ (λz'=>Ap.b1 (z' ▸ hb)) e;rcases hend with hend|⟨l1,hend⟩
 ·subst hend;refine Q5 (D1.done {s with heap:=g1} _ _ q1 λg2 e k2 he=>?_);obtain⟨oe,hoe,hce⟩:=he;have hz2:RQ g2 z TI TO .ellipsis:=k2 _ _ n1z.symm hz1;have hez:e≠z:=λx=>by rw[x,hz2]at hoe;cases hoe;simp at hce
  exact RU hz2 (by simp) λg3 _ k3=>hE g3 e s.toks (λc o c1 _ c3 _ x=>k3.extBut _ _ c1 (k2 _ _ c3 (k1.extBut _ _ c1 x))) ⟨oe,k3.extBut _ _ hez hoe,hce⟩
 ·refine Q5 (D1.item i {s with heap:=g1} _ _ l1 q1 λx g2 tk2 p1 q2 k2=>Q4 ?_);have t2:RT g2 TO a b:=k2.extBut _ _ n1T.symm (k1.extBut _ _ Ap.a2 hTO);refine Q5 (RO t2 rfl ?_);refine Q5 (RW t2 λg3 t3 k3=>?_);refine Q5 (RX (Q4 ?_));refine Q5 (Q5 (RV ?_));show QW _ _ (Builtin.SmallTypes.nextOf (.ref i2) >>= _) _ _ _;have q3:S2 i g3:=D2.frame _ _ _ st2 λb hb o e=>k3.extBut _ _ (λz'=>Ap.c2 (z' ▸ hb)) (k2.extBut _ _ (λz'=>Ap.c3 (z' ▸ hb)) (k1.extBut _ _ (λz'=>Ap.c1 (z' ▸ hb)) e));subst hend;refine Q5 (D2.done {s with heap:=g3,toks:=tk2} _ _ q3 λg4 e k4 he=>?_);obtain⟨oe,hoe,hce⟩:=he;have hz4:RQ g4 z TI TO .ellipsis:=k4 _ _ n2z.symm (k3.extBut _ _ Ap.a2.symm (k2.extBut _ _ n1z.symm hz1));have hez:e≠z:=λx=>by rw[x,hz4]at hoe;cases hoe;simp at hce
  exact RU hz4 (by simp) λg5 _ k5=>hE g5 e tk2 (λc o c1 c2 c3 c4 x=>k5.extBut _ _ c1 (k4 _ _ c4 (k3.extBut _ _ c2 (k2.extBut _ _ c3 (k1.extBut _ _ c1 x))))) ⟨oe,k5.extBut _ _ hez hoe,hce⟩
end
def SQ(b:Bool)(h:QN)(l:QL)(xs:Array QI):Prop:=if b then h.IsList l xs else h.IsTuple l xs
def SI(b:Bool)(h:QN)(i l:QL)(k:Nat):Prop:=if b then h.IsListIter i l k else h.IsTupleIter i l k
def JM(b:Bool):String:=if b then"list_iterator"else"tuple_iterator"
theorem SQ.keep{b:Bool}{h h':QN}{l:QL}{xs:Array QI}(x:SQ b h l xs)(k:∀o,h.get? l=some o->h'.get? l=some o):SQ b h' l xs:=by
 cases b with
 |true=>exact Heap.IsList.at x k
 |false=>obtain⟨o,e,r⟩:=(show h.IsTuple l xs from x);exact(show h'.IsTuple l xs from⟨o,k o e,r⟩)
theorem SI.keep{b:Bool}{h h':QN}{i l:QL}{n:Nat}(x:SI b h i l n)(k:∀o,h.get? i=some o->h'.get? i=some o):SI b h' i l n:=by
 cases b with
 |true=>exact Heap.IsListIter.at x k
 |false=>exact Heap.IsTupleIter.at x k
theorem SQ.lt{b:Bool}{h:QN}{l:QL}{xs:Array QI}(x:SQ b h l xs):l<h.objs.size:=by
 cases b with
 |true=>obtain⟨o,e,_⟩:=(show h.IsList l xs from x);exact Qh e
 |false=>obtain⟨o,e,_⟩:=(show h.IsTuple l xs from x);exact Qh e
theorem SI.get{b:Bool}{h:QN}{i l:QL}{n:Nat}(x:SI b h i l n):∃o,h.get? i=some o/\∀v,o.data≠.cell v:=by
 cases b with
 |true=>obtain⟨o,e,_,d⟩:=(show h.IsListIter i l n from x);exact⟨o,e,λv z=>by rw[d]at z;cases z⟩
 |false=>obtain⟨o,e,_,d⟩:=(show h.IsTupleIter i l n from x);exact⟨o,e,λv z=>by rw[d]at z;cases z⟩
theorem SI.new{b:Bool}{h:QN}{l:QL}:SI b (h.push {cls:=.type (JM b),data:=.fields #[.ref l,.int 0 0]}) h.objs.size l 0:=by
 cases b with
 |true=>exact⟨_,Ql _ rfl,rfl,rfl⟩
 |false=>exact⟨_,Ql _ rfl,rfl,rfl⟩
theorem rN{b:Bool}{prog:QK}{w:QJ}{A:QT}{E:QI->QU->Prop}{s:QU}{l:QL}{xs:Array QI}{Q:QI->QU->Prop}(h:SQ b s.heap l xs)
  (hQ:Q (.ref s.heap.objs.size) {s with heap:=s.heap.push {cls:=.type (JM b),data:=.fields #[.ref l,.int 0 0]}}):QW (model prog w) A (pyIter (.ref l)) Q E s:=by
 cases b with
 |true=>exact Q6 h hQ
 |false=>exact wpAny_pyIter_tuple h hQ
theorem mR{prog:QK}{w:QJ}{A:QT}(b:Bool)(hh:A.handled=none)(it l:QL)(hne:l≠it)(its:Array QI):Draws prog w A it [it,l] its.size (λi v=>its[i]?=some v) (λi h=>SI b h it l i/\SQ b h l its):=by
 cases b with
 |true=>exact Draws.list hh it l hne its
 |false=>exact Gv hh it l hne its
abbrev Br(b1:Bool)(h:QN)(l1:QL):QN:=h.push {cls:=.type (JM b1),data:=.fields #[.ref l1,.int 0 0]}
abbrev Jz(b1 b2:Bool)(h:QN)(l1 l2:QL):QN:=(Br b1 h l1).push {cls:=.type (JM b2),data:=.fields #[.ref l2,.int 0 0]}
abbrev JU(b1 b2:Bool)(h:QN)(l1 l2:QL):QN:=(Jz b1 b2 h l1 l2).push {cls:=.type "tuple",data:=.seq #[.ref h.objs.size,.ref (Br b1 h l1).objs.size]}
abbrev JV(b1 b2:Bool)(h:QN)(l1 l2:QL):QN:=(JU b1 b2 h l1 l2).push {cls:=.type "tuple",data:=.seq #[.none,.none]}
abbrev Fb(b1 b2:Bool)(h:QN)(l1 l2:QL):QN:=(JV b1 b2 h l1 l2).push {cls:=.type "zip",data:=.fields #[.none,.bool false,.bool false,.ref (Jz b1 b2 h l1 l2).objs.size,.ref (JU b1 b2 h l1 l2).objs.size]}
theorem CP(b1 b2:Bool)(l1 l2:QL)(xs ys:Array QI):Meets (Builtin.«zip.__new__» ⟨[.type "zip",.ref l1,.ref l2],[]⟩) (λ_ R s=>SQ b1 s.heap l1 xs/\SQ b2 s.heap l2 ys/\R (.ok (.ret (.ref (JV b1 b2 s.heap l1 l2).objs.size))) {s with heap:=Fb b1 b2 s.heap l1 l2}):=
 .of_wp λprog w A R s h=>by
  obtain⟨hp,g,d,tk,os⟩:=s;obtain⟨q1,q2,h⟩:=h;have hsub:=sub_zip;have e1:SQ b1 (Shared.heap ⟨hp,g,d,tk,os⟩) l1 xs:=q1;have e2:SQ b2 (Shared.heap ⟨Br b1 hp l1,g,d,tk,os⟩) l2 ys:=q2.keep λo e=>Qk _ e
  wp_walk using rN e1,rN e2
  exact⟨_,rfl,h⟩
theorem CU{prog:QK}{w:QJ}{A:QT}{E:QI->QU->Prop}{s:QU}{b1 b2:Bool}{l1 l2:QL}{xs ys:Array QI}{Q:QI->QU->Prop}(h1:SQ b1 s.heap l1 xs)(h2:SQ b2 s.heap l2 ys)
  (h:∀ g,RQ g (s.heap.objs.size+4) (s.heap.objs.size+2) (s.heap.objs.size+3) .none->RT g (s.heap.objs.size+2) (.ref s.heap.objs.size) (.ref (s.heap.objs.size+1))->RT g (s.heap.objs.size+3) .none .none->SI b1 g s.heap.objs.size l1 0->SI b2 g (s.heap.objs.size+1) l2 0 ->
   (∀c o,s.heap.get? c=some o->g.get? c=some o)->Q (.ref (s.heap.objs.size+4)) {s with heap:=g}):QW (model prog w) A (call (.type "zip") [.ref l1,.ref l2]) Q E s:=by
 refine callType_new F.called_zip (by decide) (F.typeCall_zip_2 _ _) (F.newCall_zip_2 _ _) (λobj=>F.args_object_init_3 obj _ _) F.entry_zip_new (CP b1 b2 l1 l2 xs ys) ⟨h1,h2,?_⟩;have z1:(Br b1 s.heap l1).objs.size=s.heap.objs.size+1:=Qm ..
 have z2:(Jz b1 b2 s.heap l1 l2).objs.size=s.heap.objs.size+2:=by rw[Qm,z1]
 have z3:(JU b1 b2 s.heap l1 l2).objs.size=s.heap.objs.size+3:=by rw[Qm,z2]
 have z4:(JV b1 b2 s.heap l1 l2).objs.size=s.heap.objs.size+4:=by rw[Qm,z3]
 have u1:∀c o,(Br b1 s.heap l1).get? c=some o->(Fb b1 b2 s.heap l1 l2).get? c=some o:=λc o e=>Qk _ (Qk _ (Qk _ (Qk _ e)));have u2:∀c o,(Jz b1 b2 s.heap l1 l2).get? c=some o->(Fb b1 b2 s.heap l1 l2).get? c=some o:=λc o e=>Qk _ (Qk _ (Qk _ e));have g5:(Fb b1 b2 s.heap l1 l2).get? (JV b1 b2 s.heap l1 l2).objs.size=some _:=Ql _ rfl;have g4:(Fb b1 b2 s.heap l1 l2).get? (JU b1 b2 s.heap l1 l2).objs.size=some _:=Qk _ (Ql _ rfl);have g3:(Fb b1 b2 s.heap l1 l2).get? (Jz b1 b2 s.heap l1 l2).objs.size=some _:=Qk _ (Qk _ (Ql _ rfl));have g2:SI b2 (Fb b1 b2 s.heap l1 l2) (Br b1 s.heap l1).objs.size l2 0:=SI.keep (SI.new (h:=Br b1 s.heap l1)) λo e=>u2 _ o e;have g1:SI b1 (Fb b1 b2 s.heap l1 l2) s.heap.objs.size l1 0:=SI.keep SI.new λo e=>u1 _ o e;show _/\_;rw[z2,z3,z4]at g5;rw[z1,z2]at g3;rw[z3]at g4;rw[z1]at g2;rw[z4];exact⟨⟨_,g5,rfl⟩,h _ g5 g3 g4 g1 g2 λc o e=>u1 c o (Qk _ e)⟩
theorem Bc(b : Bool)(l : QL)(xs : Array QI): Meets (Builtin.«enumerate.__new__» ⟨[.type "enumerate", .ref l], []⟩) (fun _ R s => SQ b s.heap l xs /\
      R (.ok (.ret (.ref (Br b s.heap l).objs.size))) {s with heap:=(Br b s.heap l).push {cls:=.type "enumerate",data:=.fields #[.none,.bool false,.ref s.heap.objs.size,rawInt 0,.none,.none]}}):=
  .of_wp λprog w A R s h=>by
    obtain⟨hp,g,d,tk,os⟩:=s;obtain⟨q1,h⟩:=h;have hsub:=sub_enumerate;have e1:SQ b (Shared.heap ⟨hp,g,d,tk,os⟩) l xs:=q1
    wp_walk using rN e1
    refine wpAny_stack_any λst=>Q4 ?_;split
    · rename_i c _ _ _ _ _
      cases(c==Value.type "enumerate")<;>(wp_walk using rN e1;exact⟨_,rfl,h⟩)
    · wp_walk using rN e1
      exact⟨_,rfl,h⟩
end ZI
namespace TG
open PySem PySem.Spec L2 ZI
variable[bd]
section
variable{X:Cx}{pins:List (QL×Obj)}{σ:St}{H:Hp}{s:QU}{h':QN}
theorem Inv.turnedL{ch:List QL}{p:QL}{o:HO}{t':Nat}(I:Inv X pins σ H s)(hf:∀b∈ch,tx X pins H b)(k:∀b u,b∉ch->s.heap.get? b=some u->h'.get? b=some u)(hp:s.heap.objs.size<=p)(new:cM X.prog X.w (upd H p o) h' p o):
  Inv X pins σ (upd H p o) {s with heap:=h',toks:=t'}:=by
 have hn:=I.hok.fresh hp;have nch:∀b u,H b=some u->b∉ch:=λb u e z=>by rw[(hf b z).1]at e;cases e
 refine I.step (g':=s.gens) (d':=s.drawn) (ch:=ch) (λb hb=>?_) (λb o _ _ hc e _=>k b o hc e) (λb o _ _ hc e _=>⟨o.slots,k b o hc e⟩) (λb u _ q n=>by rw[aQ (MR (MP (Qh q) hp))];exact n)
  (λb o hc e=>⟨o,k b o hc e⟩) (λb xs q=>by rw[aQ (bg q hn)];exact q) (λb u xs q=>by rw[aQ (bg q hn)];exact q) (λb ps q=>⟨#[],by rw[aQ (bg q hn),q];simp⟩) (λm hm=>?_) (λb u e=>?_) I.bare
 ·obtain⟨_,f1,_,f3,f4,f5⟩:=hf b hb;exact⟨f3,f1,f4,f5⟩
 ·obtain⟨o,es,ep,ho,r⟩:=hm;exact⟨o,es,ep,k _ o (λz=>(hf _ z).2.1 rfl) ho,r⟩
 ·by_cases hb:b=p
  ·subst hb;rw[bb]at e;cases e;exact new
  ·rw[aQ hb]at e;refine(I.hok b u e).stay (λc v hc q=>k c v ?_ q) (λc q=>by rw[aQ (bg q hn)];exact q) λc xs q=>by rw[aQ (bg q hn)];exact q
   rcases hc with z|z
   ·rw[z];exact nch b u e
   ·exact nch c _ z
theorem Inv.turned0{ch:List QL}{t':Nat}(I:Inv X pins σ H s)(hf:∀b∈ch,tx X pins H b)(k:∀b u,b∉ch->s.heap.get? b=some u->h'.get? b=some u):Inv X pins σ H {s with heap:=h',toks:=t'}:=by
 have nch:∀b u,H b=some u->b∉ch:=λb u e z=>by rw[(hf b z).1]at e;cases e
 refine I.step (g':=s.gens) (d':=s.drawn) (ch:=ch) (λb hb=>?_) (λb o _ _ hc e _=>k b o hc e) (λb o _ _ hc e _=>⟨o.slots,k b o hc e⟩) (λ_ _ _ _ n=>n)
  (λb o hc e=>⟨o,k b o hc e⟩) (λ_ _ e=>e) (λ_ _ _ e=>e) (λb ps e=>⟨#[],by rw[e];simp⟩) (λm hm=>?_) (λb u e=>?_) I.bare
 ·obtain⟨_,f1,_,f3,f4,f5⟩:=hf b hb;exact⟨f3,f1,f4,f5⟩
 ·obtain⟨o,es,ep,ho,r⟩:=hm;exact⟨o,es,ep,k _ o (λz=>(hf _ z).2.1 rfl) ho,r⟩
 ·refine(I.hok b u e).stay (λc v hc q=>k c v ?_ q) (λ_ q=>q) λ_ _ q=>q;rcases hc with z|z
  ·rw[z];exact nch b u e
  ·exact nch c _ z
end
def SX(K:PD)(b:Bool)(H:Hp)(a:QL)(xs:List V):Prop:=if b then n0 K H a xs else pY K H a xs
theorem SX.same{K:PD}{b:Bool}{H H':Hp}{a:QL}{xs:List V}(e:bE H H')(h:SX K b H a xs):SX K b H' a xs:=by
 cases b with
 |true=>exact e.seq (show n0 K H a xs from h)
 |false=>exact A8 e (show pY K H a xs from h)
section
variable{X:Cx}{pins:List (QL×Obj)}{σ:St}{H:Hp}{s:QU}
theorem Inv.sx(I:Inv X pins σ H s){b:Bool}{a:QL}{xs:List V}(h:SX X.K b H a xs):∃its:List QI,Vals xs its/\SQ b s.heap a its.toArray/\xs.length<=QO:=by
 cases b with
 |true=>obtain⟨its,r,p,z⟩:=I.list (show n0 X.K H a xs from h);exact⟨its,r,p.isList,z⟩
 |false=>obtain⟨its,r,p,z⟩:=I.tuple (show pY X.K H a xs from h);exact⟨its,r,p,z⟩
theorem Inv.sx_inj(I:Inv X pins σ H s){b:Bool}{a:QL}{xs ys:List V}(h:SX X.K b H a xs)(h':SX X.K b H a ys):xs=ys:=by
 cases b with
 |true=>exact I.list_inj h h'
 |false=>exact I.tuple_inj h h'
end
def Ma(K:PD)(b1 b2:Bool)(a1 a2:QL):It:=
  ⟨fun i H=>∃ xs ys,SX K b1 H a1 xs/\SX K b2 H a2 ys/\i < xs.length/\i < ys.length,
   λi H v H'=>∃p x y,v=.ref p/\H p=none/\H'=upd H p (.tup [x,y])/\(∀xs,SX K b1 H a1 xs->xs[i]?=some x)/\∀ys,SX K b2 H a2 ys->ys[i]?=some y,
   λi H=>∃xs ys,SX K b1 H a1 xs/\SX K b2 H a2 ys/\(i=xs.length\/(i<xs.length/\i=ys.length))⟩
theorem CM{P:QK}{w:QJ}{K:PD}{es:List QX}{k:Nat}{pos:Pos}{b1 b2:Bool}{a1 a2 z TI TO i1 i2:QL}(Ap:Apart z TI TO i1 i2 [i1,a1] [i2,a2])(n1:a1≠i1)(n2:a2≠i2)(n3:z≠i1)(n4:z≠i2):Turn P w K (.Tuple es k pos) (Ma K b1 b2 a1 a2) [z,TI,TO,i1,i2] z
  (λi h=>RQ h z TI TO .none/\RT h TI (.ref i1) (.ref i2)/\(∃a b,RT h TO a b)/\SI b1 h i1 a1 i/\SI b2 h i2 a2 i)where
 mem:=by simp
 obj:=λi h ⟨hz,hI,⟨a,b,hO⟩,s1,s2⟩ c hc=>by
  simp only[Oh,Oi,or_false]at hc;rcases hc with rfl|rfl|rfl|rfl|rfl
  ·exact⟨_,hz,λv q=>by cases q⟩
  ·exact⟨_,hI,λv q=>by cases q⟩
  ·exact⟨_,hO,λv q=>by cases q⟩
  ·exact s1.get
  ·exact s2.get
 keep:=λi h h' ⟨hz,hI,⟨a,b,hO⟩,s1,s2⟩ kp=>⟨kp z (by simp) _ hz,kp TI (by simp) _ hI,⟨a,b,kp TO (by simp) _ hO⟩,s1.keep λo e=>kp i1 (by simp) o e,s2.keep λo e=>kp i2 (by simp) o e⟩
 item:=by
  intro X hP hw hK hc i pins s σ H E I hf ⟨hz,hI,⟨a,b,hO⟩,s1,s2⟩ hg;subst hP hw hK;obtain⟨xs,ys,g1,g2,l1,l2⟩:=hg;obtain⟨its1,r1,q1,z1⟩:=Inv.sx I g1;obtain⟨its2,r2,q2,z2⟩:=Inv.sx I g2;have hh:X.A.in1.handled=none:=I.ok.hd hc;have hT:s.TypeIs (.ref z) "zip":=⟨_,hz,rfl⟩
  unfold pyNext;refine Q5 (RZ (Rz (name:=Str.ofString "__next__") hT F.slot_zip_next (RA F.slot_zip_next hT F.entry_zip_next
   (next_item Ap (mR (A:=X.A.in1) b1 hh i1 a1 n1 its1.toArray) (mR (A:=X.A.in1) b2 hh i2 a2 n2 its2.toArray) hz hI hO ⟨s1,q1⟩ ⟨s2,q2⟩ (by rw[M8,<-r1.length];exact l1) (by rw[M8,<-r2.length];exact l2) λu v g tk p1 p2 hz' hO' t1 t2 hp sz kp=>?_) (F.args_zip_next_1 _))))
  have e1:its1[i]?=some u:=by simpa using p1
  have e2:its2[i]?=some v:=by simpa using p2
  have hx:∃x,xs[i]?=some x/\RelV x u:=by
   obtain⟨u',hu,ru⟩:=r1.get (i:=i) (x:=xs[i]) (by simp[l1]);rw[e1]at hu;cases hu;exact⟨xs[i],by simp[l1],ru⟩
  have hy:∃y,ys[i]?=some y/\RelV y v:=by
   obtain⟨u',hu,ru⟩:=r2.get (i:=i) (x:=ys[i]) (by simp[l2]);rw[e2]at hu;cases hu;exact⟨ys[i],by simp[l2],ru⟩
  obtain⟨x,ex,rx⟩:=hx;obtain⟨y,ey,ry⟩:=hy;refine Q4 ⟨_,rfl,?_⟩;refine wpAny_letOwnedTupleGo_zip hz' λg' hz2 sb=>?_;have hpz:s.heap.objs.size≠z:=M1 (Qh hz);have hp':RT g' s.heap.objs.size u v:=sb.extBut _ _ hpz hp;have I':Inv X pins σ (upd H s.heap.objs.size (.tup [x,y])) {s with heap:=g',toks:=tk}:=Inv.turnedL (ch:=[z,TI,TO,i1,i2]) I hf (λc o hc e=>by
   simp only[Oh,Oi,or_false,not_or]at hc;exact sb.extBut _ _ hc.1 (kp c o hc.1 hc.2.2.1 hc.2.2.2.1 hc.2.2.2.2 e)) (M3 _) ⟨by show 2<=QO;decide,[u,v],.cons rx (.cons ry .nil),_,hp',rfl,_,rfl⟩
  have fr:H s.heap.objs.size=none:=I.fresh;have ne:∀c∈[z,TI,TO,i1,i2],c≠s.heap.objs.size:=λc hc e=>by
   simp only[Oh,Oi,or_false]at hc;rcases hc with rfl|rfl|rfl|rfl|rfl
   ·exact hpz e.symm
   ·exact absurd (Qh hI) (by rw[e];exact MQ _)
   ·exact absurd (Qh hO) (by rw[e];exact MQ _)
   ·obtain⟨o,q,_⟩:=s1.get;exact absurd (Qh q) (by rw[e];exact MQ _)
   ·obtain⟨o,q,_⟩:=s2.get;exact absurd (Qh q) (by rw[e];exact MQ _)
  refine⟨.ref s.heap.objs.size,_,I',rfl,⟨_,x,y,rfl,fr,rfl,λxs' h=>by rw[Inv.sx_inj I h g1];exact ex,λys' h=>by rw[Inv.sx_inj I h g2];exact ey⟩,⟨hz2,?_,⟨u,v,sb.extBut _ _ Ap.a2 hO'⟩,?_,?_⟩,λc hc=>by rw[aQ (ne c hc)];exact(hf c hc).1⟩
  ·exact sb.extBut _ _ Ap.a1 (kp TI _ Ap.a1 Ap.a3 Ap.d1 Ap.d2 hI)
  ·exact t1.1.keep λo e=>sb.extBut _ _ n3.symm e
  ·exact t2.1.keep λo e=>sb.extBut _ _ n4.symm e
 done:=by
  intro X hP hw hK hc i pins s σ H E I hf ⟨hz,hI,⟨a,b,hO⟩,s1,s2⟩ hg;subst hP hw hK;obtain⟨xs,ys,g1,g2,hl⟩:=hg;obtain⟨its1,r1,q1,z1⟩:=Inv.sx I g1;obtain⟨its2,r2,q2,z2⟩:=Inv.sx I g2;have hh:X.A.in1.handled=none:=I.ok.hd hc;have hT:s.TypeIs (.ref z) "zip":=⟨_,hz,rfl⟩
  unfold pyNext;refine Q5 (RZ (Rz (name:=Str.ofString "__next__") hT F.slot_zip_next (RA F.slot_zip_next hT F.entry_zip_next
   (next_end (i:=i) Ap (mR (A:=X.A.in1) b1 hh i1 a1 n1 its1.toArray) (mR (A:=X.A.in1) b2 hh i2 a2 n2 its2.toArray) hz hI hO ⟨s1,q1⟩ ⟨s2,q2⟩ (by rw[M8,M8,<-r1.length,<-r2.length];exact hl) λg e tk kp he=>?_) (F.args_zip_next_1 _))))
  obtain⟨o,ho,hce⟩:=he;refine Q5 (R3 (T:="StopIteration") (b:=true) ⟨o,ho,hce⟩ isSubtype_stop ?_);refine Q4 ⟨rfl,Inv.turned0 (ch:=[z,TI,TO,i1,i2]) I hf λc o hc e=>?_⟩;simp only[Oh,Oi,or_false,not_or]at hc;exact kp c o hc.1 hc.2.2.1 hc.2.2.2.1 hc.2.2.2.2 e
 self:=λ_ _ _ _ _ ⟨hz,_⟩ h=>wpAny_pyIter_zip hz h
def D3:D->Option (Bool×List D)
 |.lst xs=>some (true,xs)
 |.tup xs=>some (false,xs)
 |_=>none
theorem sI{K:PD}{H:Hp}{d:D}{b:Bool}{xs:List D}{v:V}(e:D3 d=some (b,xs))(h:cQ K H d v):∃a vs,v=.ref a/\SX K b H a vs/\bj K H xs vs:=by
 cases d with
 |lst ys=>cases e;exact cH.mp h
 |tup ys=>cases e;obtain⟨a,vs,e1,e2,e3⟩:=cG.mp h;exact⟨a,vs,e1,pY.of e2,e3⟩
 |_=>cases e
def kA:List D->List D->List D
 |x::xs,y::ys=>.tup [x,y]::kA xs ys
 |_,_=>[]
theorem qd:∀xs ys:List D,(kA xs ys).length=min xs.length ys.length
 |[],_=>by simp[kA]
 |_::_,[]=>by simp[kA]
 |x::xs,y::ys=>by
  rw[kA,NE,qd xs ys,NE,NE];omega
theorem v4:∀{xs ys:List D}{i:Nat}{d:D},(kA xs ys)[i]?=some d->∃x y,xs[i]?=some x/\ys[i]?=some y/\d=.tup [x,y]
 |[],_,i,d,h=>by simp[kA]at h
 |_::_,[],i,d,h=>by simp[kA]at h
 |x::xs,y::ys,0,d,h=>by
  rw[kA,Oj]at h;cases h;exact⟨x,y,rfl,rfl,rfl⟩
 |x::xs,y::ys,i+1,d,h=>by
  rw[kA,Ol]at h;obtain⟨a,b,h1,h2,h3⟩:=v4 h;exact⟨a,b,by rw[Ol];exact h1,by rw[Ol];exact h2,h3⟩
theorem CG{K:PD}{Hd:Hp}{b1 b2:Bool}{a1 a2:QL}{ds es:List D}{vs ws:List V}(h1:SX K b1 Hd a1 vs)(g1:bj K Hd ds vs)(h2:SX K b2 Hd a2 ws)(g2:bj K Hd es ws):Walk K Hd (Ma K b1 b2 a1 a2) (kA ds es):=λHn O' i hO sm=>
  have s':bE Hd Hn:=sm.trans (aK Hn O')
  ⟨fun d e=>by
    obtain⟨x,y,e1,e2,rfl⟩:=v4 e;have l1:i<ds.length:=(List.getElem?_eq_some_iff.mp e1).1;have l2:i<es.length:=(List.getElem?_eq_some_iff.mp e2).1;obtain⟨v,ev,dv⟩:=g1.get e1;obtain⟨w,ew,dw⟩:=g2.get e2;refine⟨⟨vs,ws,h1.same s',h2.same s',by rw[<-g1.length];exact l1,by rw[<-g2.length];exact l2⟩,λu H2 ⟨p,x',y',eu,hp,eH,q1,q2⟩=>?_⟩;have z1:=q1 vs (h1.same s');rw[ev]at z1;cases z1;have z2:=q2 ws (h2.same s');rw[ew]at z2;cases z2;subst eH eu;exact⟨cf hp _,fF hO hp (bM.mpr ⟨v,_,rfl,dv.mono sm,bM.mpr ⟨w,_,rfl,dw.mono sm,cY.mpr rfl⟩⟩)⟩,
   λhl=>by
    rw[qd]at hl;refine⟨vs,ws,h1.same s',h2.same s',?_⟩;rw[<-g1.length,<-g2.length]
    omega⟩
def yx:List D->Option (List D)
 |[a,b]=>(D3 a).bind λx=>(D3 b).bind λy=>some (kA x.2 y.2)
 |_=>none
def AG(f:av->R (List D)):av->R (List D):=λρ=>(f ρ).bind λds=>rO (yx ds)
section
variable{X:Cx}
theorem FZ{a b c:QL}(h1:a≠b)(h2:a≠c):a∉[b,c]:=λh=>by
 rcases List.mem_cons.mp h with z|z
 ·exact h1 z
 ·exact h2 (List.mem_singleton.mp z)
theorem A7{n a1 a2:QL}(h1:a1<n)(h2:a2<n):Apart (n+4) (n+2) (n+3) n (n+1) [n,a1] [n+1,a2]:=by
 have lt:∀{a b:Nat},a<b->(b:QL)≠(a:QL):=λh=>M1 h;have lt':∀{a b:Nat},a<b->(a:QL)≠(b:QL):=λh=>MR h;have g:∀k:Nat,a1<n+k:=λk=>MP h1 (Om _ _);have g':∀k:Nat,a2<n+k:=λk=>MP h2 (Om _ _);have p:∀{j k:Nat},j<k->n+j<n+k:=λh=>Oo h n;have p0:∀{k:Nat},0<k->n<n+k:=λh=>Oq h;exact⟨lt' (p (by decide)),lt' (p (by decide)),lt' (p (by decide)),FZ (lt (p0 (by decide))) (lt (g 4)),FZ (lt (p0 (by decide))) (lt (g 3)),FZ (lt (p0 (by decide))) (lt (g 1)),
  FZ (lt (p (by decide))) (lt (g' 4)),FZ (lt (p (by decide))) (lt (g' 3)),FZ (lt' (p0 (by decide))) (lt h2),lt (p0 (by decide)),lt (p (by decide)),MV,MV⟩
theorem Gm{pins:List (QL×Obj)}{s:QU}{σ:St}{H:Hp}{O:List QL}{es:List QX}{k:Nat}{tpos:Pos}{ds r:List D}{vs:List V}{us:List QI}{RR:It->Hp->Prop}(I:Inv X pins σ H s)(hc:yx ds=some r)(d1:bj X.K (hid H O) ds vs)(rv:Vals vs us)(q:∀J,Walk X.K (hid H O) J r->RR J H):
  QW (model X.prog X.w) X.A (call (.type "zip") us) (λv s1=>QW (model X.prog X.w) X.A (pyIter v) (PIE X pins σ (.Tuple es k tpos) RR) X.xe s1) X.xe s:=by
 unfold yx at hc;split at hc
 ·rename_i a b;obtain⟨⟨b1,xs⟩,e1,hc⟩:=bind_some hc;obtain⟨⟨b2,ys⟩,e2,hc⟩:=bind_some hc;cases hc;obtain⟨va,vb,rfl,da,db⟩:=d1.two;obtain⟨u1,u2,rfl,r1,r2⟩:=vals2 rv;obtain⟨a1,ws1,rfl,x1,y1⟩:=sI e1 da;obtain⟨a2,ws2,rfl,x2,y2⟩:=sI e2 db;cases r1;cases r2;obtain⟨its1,rr1,q1,_⟩:=Inv.sx I (x1.same (aK H O));obtain⟨its2,rr2,q2,_⟩:=Inv.sx I (x2.same (aK H O));refine CU q1 q2 λg hz hI hO s1 s2 kp=>wpAny_pyIter_zip hz ?_;have Ap:=A7 q1.lt q2.lt;refine⟨_,_,_,_,H,rfl,I.kept (t':=s.toks) kp,CM (b1:=b1) (b2:=b2) Ap (MR q1.lt) (MR (MP q2.lt (Om _ 1))) (M1 (Oq (by decide))) (M1 (Oo (by decide) _)),⟨hz,hI,⟨_,_,hO⟩,s1,s2⟩,λb hb=>?_,q _ (CG x1 y1 x2 y2)⟩;have le:s.heap.objs.size<=b:=by
   simp only[Oh,Oi,or_false]at hb;rcases hb with rfl|rfl|rfl|rfl|rfl
   ·exact Om _ _
   ·exact Om _ _
   ·exact Om _ _
   ·exact M3 _
   ·exact Om _ _
  exact I.fpOk le (I.hok.fresh le)
 ·cases hc
theorem KD{a b:QX}{es:List QX}{k:Nat}{tpos:Pos}{f:av->R (List D)}{p pos:Pos}(hg:Gl X "zip")(hm:X.mg "zip"=none)(ha:FA X [a,b] f)(hs:QY [a,b] X.env=(false,eval a X.env)::QY [b] X.env:=by rfl)(hpl:(backTo pos (QY [b] X.env)).any (·.1)=false:=by rfl):FI X (.Tuple es k tpos) (.Call (.Name "zip" p) [a,b] [] pos) (AG f):=by
 intro pins s σ H RR I ⟨O,ρ,E,hG⟩;have hA:=ha pos pins s σ H (λvs H1=>∃ds r,yx ds=some r/\bj X.K (hid H1 O) ds vs/\∀J,Walk X.K (hid H1 O) J r->RR J H1) I ⟨O,ρ,E,(i7.bind hG).imp λds hG vs H1 s1 d1=>by
  obtain⟨r,e,q⟩:=i7.rO hG;exact⟨ds,r,e,d1,λJ wk=>q J H1 s1 wk⟩⟩
 refine Qv (lB I hg hm PyProof.Rows.boot_zip (Qr (eQ hA λus s1 ⟨vs,H1,I1,r1,ds,r,er,d1,q⟩=>?_) hs hpl));exact Gm I1 er d1 r1 q
end
def Mm(K:PD)(b:Bool)(a:QL):It:=
  ⟨fun i H=>∃ xs,SX K b H a xs/\i < xs.length,
   λi H v H'=>∃p x,v=.ref p/\H p=none/\H'=upd H p (.tup [.int i,x])/\∀xs,SX K b H a xs->xs[i]?=some x,
   λi H=>∃xs,SX K b H a xs/\i=xs.length⟩
theorem A1{P:QK}{w:QJ}{K:PD}{es:List QX}{k:Nat}{pos:Pos}{b:Bool}{a e it:QL}(n1:a≠it)(n2:e≠it)(n3:e≠a):Turn P w K (.Tuple es k pos) (Mm K b a) [e,it] e (λi h=>(∃old,IsEnum h e it i old)/\SI b h it a i)where
 mem:=by simp
 obj:=λi h ⟨⟨old,he⟩,s1⟩ c hc=>by
  simp only[Oh,Oi,or_false]at hc;rcases hc with rfl|rfl
  ·exact⟨_,he,λv q=>by cases q⟩
  ·exact s1.get
 keep:=λi h h' ⟨⟨old,he⟩,s1⟩ kp=>⟨⟨old,kp e (by simp) _ he⟩,s1.keep λo q=>kp it (by simp) o q⟩
 item:=by
  intro X hP hw hK hc i pins s σ H E I hf ⟨⟨old,he⟩,s1⟩ hg;subst hP hw hK;obtain⟨xs,g1,l1⟩:=hg;obtain⟨its,r1,q1,z1⟩:=Inv.sx I g1;have hh:X.A.in1.handled=none:=I.ok.hd hc;refine wpAny_pyNext_enum_itemD (mR (A:=X.A.in1) b hh it a n1 its.toArray) he ⟨s1,q1⟩ (by rw[M8,<-r1.length];exact l1) n2 (FZ n2 n3) λu g tk p1 ho t1 hp sz kp=>?_;have e1:its[i]?=some u:=by simpa using p1
  obtain⟨u',hu,ru⟩:=r1.get (i:=i) (x:=xs[i]) (by simp[l1]);rw[e1]at hu;cases hu;refine⟨_,rfl,wpAny_letOwnedTupleGo_enum ho λg' he' sb=>?_⟩;have hpe:s.heap.objs.size≠e:=M1 (Qh he);have hp':=sb.extBut _ _ hpe hp;have I':Inv X pins σ (upd H s.heap.objs.size (.tup [.int i,xs[i]])) {s with heap:=g',toks:=tk+1}:=Inv.turnedL (ch:=[e,it]) I hf (λc o hc q=>by
   simp only[Oh,Oi,or_false,not_or]at hc;exact sb.extBut _ _ hc.1 (kp c o hc.1 hc.2 q)) (M3 _) ⟨by show 2<=QO;decide,[.int i tk,u],.cons ⟨_,rfl⟩ (.cons ru .nil),_,hp',rfl,_,rfl⟩
  have ne:∀c∈[e,it],c≠s.heap.objs.size:=λc hc q=>by
   simp only[Oh,Oi,or_false]at hc;rcases hc with rfl|rfl
   ·exact hpe q.symm
   ·obtain⟨o,q',_⟩:=s1.get;exact absurd (Qh q') (by rw[q];exact MQ _)
  refine⟨.ref s.heap.objs.size,_,I',rfl,⟨_,xs[i],rfl,I.fresh,rfl,λxs' h=>by rw[Inv.sx_inj I h g1];simp[l1]⟩,⟨⟨u,?_⟩,t1.1.keep λo q=>sb.extBut _ _ n2.symm q⟩,λc hc=>by rw[aQ (ne c hc)];exact(hf c hc).1⟩;have ei:((i+1:Nat):Int)=(i:Int)+1:=by omega
  rw[ei];exact he'
 done:=by
  intro X hP hw hK hc i pins s σ H E I hf ⟨⟨old,he⟩,s1⟩ hg;subst hP hw hK;obtain⟨xs,g1,l1⟩:=hg;obtain⟨its,r1,q1,z1⟩:=Inv.sx I g1;have hh:X.A.in1.handled=none:=I.ok.hd hc;have el:i=its.toArray.size:=by rw[M8,<-r1.length];exact l1
  refine wpAny_pyNext_enum_endD (mR (A:=X.A.in1) b hh it a n1 its.toArray) he ⟨by rw[<-el];exact s1,q1⟩ λg kp=>⟨rfl,Inv.turned0 (ch:=[e,it]) I hf λc o hc q=>?_⟩
  simp only[Oh,Oi,or_false,not_or]at hc;exact kp c o hc.2 q
 self:=λ_ _ _ _ _ ⟨⟨old,he⟩,_⟩ h=>wpAny_pyIter_enum he h
def kT(i:Nat):List D->List D
 |[]=>[]
 |x::xs=>.tup [.int i,x]::kT (i+1) xs
theorem oS:∀(i:Nat)(xs:List D),(kT i xs).length=xs.length
 |_,[]=>rfl
 |i,x::xs=>by rw[kT,NE,oS (i+1) xs,NE]
theorem uy:∀{xs:List D}{k i:Nat}{d:D},(kT k xs)[i]?=some d->∃x,xs[i]?=some x/\d=.tup [.int ((k+i:Nat):Int),x]
 |[],k,i,d,h=>by simp[kT]at h
 |x::xs,k,0,d,h=>by
  rw[kT,Oj]at h;cases h;exact⟨x,rfl,rfl⟩
 |x::xs,k,i+1,d,h=>by
  rw[kT,Ol]at h;obtain⟨y,h1,h2⟩:=uy h;refine⟨y,by rw[Ol];exact h1,?_⟩;rw[h2];congr 4;omega
theorem Ac{K:PD}{Hd:Hp}{b:Bool}{a:QL}{ds:List D}{vs:List V}(h1:SX K b Hd a vs)(g1:bj K Hd ds vs):Walk K Hd (Mm K b a) (kT 0 ds):=λHn O' i hO sm=>
  have s':bE Hd Hn:=sm.trans (aK Hn O')
  ⟨fun d e=>by
    obtain⟨x,e1,rfl⟩:=uy e;have l1:i<ds.length:=(List.getElem?_eq_some_iff.mp e1).1;obtain⟨v,ev,dv⟩:=g1.get e1;refine⟨⟨vs,h1.same s',by rw[<-g1.length];exact l1⟩,λu H2 ⟨p,x',eu,hp,eH,q1⟩=>?_⟩;have z1:=q1 vs (h1.same s');rw[ev]at z1;cases z1;subst eH eu;rw[Ot];exact⟨cf hp _,fF hO hp (bM.mpr ⟨.int i,_,rfl,fj.mpr rfl,bM.mpr ⟨v,_,rfl,dv.mono sm,cY.mpr rfl⟩⟩)⟩,
   λhl=>by
    rw[oS]at hl;exact⟨vs,h1.same s',by rw[<-g1.length];exact hl⟩⟩
def tR:List D->Option (List D)
 |[a]=>(D3 a).bind λx=>some (kT 0 x.2)
 |_=>none
def gI(f:av->R (List D)):av->R (List D):=λρ=>(f ρ).bind λds=>rO (tR ds)
section
variable{X:Cx}
theorem AZ{prog:QK}{w:QJ}{A:QT}{E:QI->QU->Prop}{s:QU}{b:Bool}{l:QL}{xs:Array QI}{Q:QI->QU->Prop}(h1:SQ b s.heap l xs)
  (h:∀g,IsEnum g (s.heap.objs.size+1) s.heap.objs.size 0 .none->SI b g s.heap.objs.size l 0->(∀c o,s.heap.get? c=some o->g.get? c=some o)->Q (.ref (s.heap.objs.size+1)) {s with heap:=g}):QW (model prog w) A (call (.type "enumerate") [.ref l]) Q E s:=by
 refine callType_new F.called_enumerate (by decide) (F.typeCall_enumerate_1 _) (F.newCall_enumerate_1 _) (λobj=>F.args_object_init_2 obj _) F.entry_enumerate_new (Bc b l xs) ⟨h1,?_⟩;have z1:(Br b s.heap l).objs.size=s.heap.objs.size+1:=Qm ..
 have g2:=Ql (Br b s.heap l) (o:={cls:=.type "enumerate",data:=.fields #[.none,.bool false,.ref s.heap.objs.size,rawInt 0,.none,.none]}) rfl;have g1:SI b ((Br b s.heap l).push {cls:=.type "enumerate",data:=.fields #[.none,.bool false,.ref s.heap.objs.size,rawInt 0,.none,.none]}) s.heap.objs.size l 0:=SI.keep SI.new λo e=>Qk _ e;show _/\_;rw[z1]at g2 ⊢;exact⟨⟨_,g2,rfl⟩,h _ g2 g1 λc o e=>Qk _ (Qk _ e)⟩
theorem EW{pins:List (QL×Obj)}{s:QU}{σ:St}{H:Hp}{O:List QL}{es:List QX}{k:Nat}{tpos:Pos}{ds r:List D}{vs:List V}{us:List QI}{RR:It->Hp->Prop}(I:Inv X pins σ H s)(hc:tR ds=some r)(d1:bj X.K (hid H O) ds vs)(rv:Vals vs us)(q:∀J,Walk X.K (hid H O) J r->RR J H):
  QW (model X.prog X.w) X.A (call (.type "enumerate") us) (λv s1=>QW (model X.prog X.w) X.A (pyIter v) (PIE X pins σ (.Tuple es k tpos) RR) X.xe s1) X.xe s:=by
 unfold tR at hc;split at hc
 ·rename_i a;obtain⟨⟨b1,xs⟩,e1,hc⟩:=bind_some hc;cases hc;obtain⟨va,rfl,da⟩:=d1.one;obtain⟨u1,rfl,r1⟩:=vals1 rv;obtain⟨a1,ws1,rfl,x1,y1⟩:=sI e1 da;cases r1;obtain⟨its1,rr1,q1,_⟩:=Inv.sx I (x1.same (aK H O));refine AZ q1 λg he s1 kp=>wpAny_pyIter_enum he ?_;refine⟨_,_,_,_,H,rfl,I.kept (t':=s.toks) kp,A1 (b:=b1) (MR q1.lt) (M1 (Oq (by decide))) (M1 (MP q1.lt (Om _ 1))),⟨⟨_,he⟩,s1⟩,λb hb=>?_,q _ (Ac x1 y1)⟩;have le:s.heap.objs.size<=b:=by
   simp only[Oh,Oi,or_false]at hb;rcases hb with rfl|rfl
   ·exact Om _ _
   ·exact M3 _
  exact I.fpOk le (I.hok.fresh le)
 ·cases hc
theorem DV{a:QX}{es:List QX}{k:Nat}{tpos:Pos}{f:av->R (List D)}{p pos:Pos}(hg:Gl X "enumerate")(hm:X.mg "enumerate"=none)(ha:FA X [a] f)(hs:QY [a] X.env=(false,eval a X.env)::QY [] X.env:=by rfl)(hpl:(backTo pos (QY [] X.env)).any (·.1)=false:=by rfl):FI X (.Tuple es k tpos) (.Call (.Name "enumerate" p) [a] [] pos) (gI f):=by
 intro pins s σ H RR I ⟨O,ρ,E,hG⟩;have hA:=ha pos pins s σ H (λvs H1=>∃ds r,tR ds=some r/\bj X.K (hid H1 O) ds vs/\∀J,Walk X.K (hid H1 O) J r->RR J H1) I ⟨O,ρ,E,(i7.bind hG).imp λds hG vs H1 s1 d1=>by
  obtain⟨r,e,q⟩:=i7.rO hG;exact⟨ds,r,e,d1,λJ wk=>q J H1 s1 wk⟩⟩
 refine Qv (lB I hg hm PyProof.Rows.boot_enumerate (Qr (eQ hA λus s1 ⟨vs,H1,I1,r1,ds,r,er,d1,q⟩=>?_) hs hpl));exact EW I1 er d1 r1 q
end
end TG
namespace TG
open PySem PySem.Spec L2
variable[bd]
theorem AB{K:PD}{c:Str}{C C':QL}(h:clsAt K c C)(h':clsAt K c C'):C=C':=by
 unfold clsAt at h h';rw[h]at h';cases h';rfl
theorem tS{f:Str}:∀{fs:List Str}{vs:List V},fs.contains f=false->(fs.zip vs).lookup f=none
 |[],_,_=>by simp
 |_::_,[],_=>by simp
 |g::fs,x::vs,h=>by
  rw[Ou,Bool.or_eq_false_iff]at h;rw[Ov,NN,h.1];exact tS h.2
def MG(f:Str)(cs:List Str)(d:D):Option D:=match d with
 |.obj c fs vs=>if cs.contains c then(fs.zip vs).lookup f else none
 |_=>none
section
variable{X:Cx}{a o e:QX}{es:List QX}{fa fo:FX}{fas:av->R (List D)}{f m x:Str}{cs:List Str}{pos apos p:Pos}{k k':Nat}{ps:List Str}
def MethAt(P:QK)(w:QJ)(K:PD)(mg:Str->Option QI)(base:QN)(k:Nat)(c m:Str)(ps:List Str)(g:List D->R D):Prop:=
 ∃C f fd,clsAt K c C/\HH K C/\Meth K C m f/\nA P w K mg base (nZ P w) k f fd ps (Bs K ps.length g)/\Binds K fd ps []
def lE(m:Str)(tbl:List (Str×(List D->R D)))(fo:FX)(fas:av->R (List D)):FX:=λρ=>(fo ρ).bind λo=>match o with
 |.obj c fs vs=>match tbl.lookup c with
  |some g=>if fs.contains m then un else(fas ρ).bind λas=>g (o::as)
  |none=>un
 |_=>un
def nI(P:QK)(w:QJ)(K:PD)(mg:Str->Option QI)(base:QN)(k:Nat)(m:Str)(ps:List Str)(tbl:List (Str×(List D->R D))):Prop:=
 ∀c g,tbl.lookup c=some g->MethAt P w K mg base k c m ps g/\Ar ps.length g
theorem zI{P:QK}{w:QJ}{K:PD}{mg:Str->Option QI}{base:QN}:nI P w K mg base k m ps []:=λ_ _ h=>nomatch h
theorem oP{P:QK}{w:QJ}{K:PD}{mg:Str->Option QI}{base:QN}{c:Str}{g:List D->R D}{tbl:List (Str×(List D->R D))}(h:MethAt P w K mg base k c m ps g)(hn:Ar ps.length g)(t:nI P w K mg base k m ps tbl):nI P w K mg base k m ps ((c,g)::tbl):=λc' g' e=>by
 rw[NN]at e;cases hc:c'==c with
 |true=>
  rw[hc]at e;cases e
  have:c'=c:=by simpa using hc
  subst this;exact⟨h,hn⟩
 |false=>rw[hc]at e;exact t c' g' e
theorem MethAt.mono{P:QK}{w:QJ}{K:PD}{mg:Str->Option QI}{base:QN}{c:Str}{g:List D->R D}(h:MethAt P w K mg base k c m ps g)(hk:k<=k'):MethAt P w K mg base k' c m ps g:=by
 obtain⟨C,f,fd,h1,h2,h3,h4,h5⟩:=h;exact⟨C,f,fd,h1,h2,h3,h4.mono hk,h5⟩
theorem Cq{tbl:List (Str×(List D->R D))}{args:List QX}{pl:Sem Bool}(tb:nI X.prog X.w X.K X.mg X.base k m ps tbl)(hr:iF k X.A)(ho:FE X o fo)
  (hc:∀ (pins:List (QL×Obj)) (s1:QU) (σ:St) (H1:Hp) (O:List QL) (ρ:av) (a f:QL) (od:D) (Q:VK) (g:List D->R D) (fd:Rm) (w0:V),PY X.K (.ref f)=true->nA X.prog X.w X.K X.mg X.base (nZ X.prog X.w) k f fd ps (Bs X.K ps.length g)->Binds X.K fd ps []->Ar ps.length g->Inv X pins σ H1 s1->d9 X.K O H1 ρ σ->cQ X.K (hid H1 O) od (.ref a) ->
   (i7 X σ O H1 ((fas ρ).bind λas=>g (od::as)) λd=>∀v H',bE H1 H'->cQ X.K (hid H' O) d v->Q v H')->
   QW (model X.prog X.w) X.A (Rh pos (.ref f) [.ref a] (backTo pos (QY args X.env)) (backToKw pos (Ri [] X.env))) (EP X pins σ Q) X.xe s1)
  (ht:eval (.Call (.Attribute o m apos) args [] pos) X.env=(do
   let ov<-eval o X.env
   standAt apos.atName
   let (f,first)<-holding [ov] (getMethod ov m pl)
   Rh pos f first (backTo pos (QY args X.env)) (backToKw pos (Ri [] X.env)))):
  FE X (.Call (.Attribute o m apos) args [] pos) (lE m tbl fo fas):=by
 intro pins s σ H Q I ⟨O,ρ,E,hF⟩;refine ww ho I ?_ ht;refine⟨O,ρ,E,(i7.bind hF).imp λd hF v H1 s1 d1=>?_⟩;cases d with
 |obj c fs vs=>
  have hF':i7 X σ O H (match tbl.lookup c with|some g=>if fs.contains m then un else(fas ρ).bind λas=>g (.obj c fs vs::as)|none=>un) _:=hF;cases hg:tbl.lookup c with
  |none=>rw[hg]at hF';exact hF'.elim
  |some g=>
   rw[hg]at hF';have hF2:i7 X σ O H (if fs.contains m then un else(fas ρ).bind λas=>g (.obj c fs vs::as)) _:=hF';cases hm:fs.contains m with
   |true=>rw[hm]at hF2;exact hF2.elim
   |false=>
    rw[hm]at hF2;have hF3:i7 X σ O H ((fas ρ).bind λas=>g (.obj c fs vs::as)) _:=hF2;have d0:=d1;obtain⟨a,ws,ev,g1,g2,C,dx,g3,g4⟩:=JT.mp d1;obtain⟨⟨C',f,fd,m1,m2,m3,m4,m5⟩,ar⟩:=tb c g hg;have eC:=AB g3 m1;subst eC;subst ev;refine⟨a,C,dx,_,f,rfl,aK H1 O _ _ g4,m2,m3,tS hm,λs2 I2=>?_⟩;exact hc pins s2 σ H1 O ρ a f _ Q g fd (.ref a) m3.kp m4 m5 ar I2 (E.same s1) d0 ((hF3.mono s1).imp λd q v H2 s2 d2=>q v H2 (s1.trans s2) d2)
 |_=>exact hF.elim
theorem xV{σ:St}{O:List QL}{H:Hp}{g:List D->R D}{ds:List D}{vs:List V}{Q:VK}{n:Nat}(ar:Ar n g)(hO:dW H O)(d1:bj X.K (hid H O) ds vs)(h:i7 X σ O H (g ds) λd=>∀v H',bE H H'->cQ X.K (hid H' O) d v->Q v H'):∃E,lH (nZ X.prog X.w) X σ E/\Bs X.K n g vs H Q E:=by
 cases hg:g ds with
 |ok d=>
  rw[hg]at h;refine⟨E0,zP,O,ds,by rw[<-d1.length];exact ar ds (by rw[hg];intro z;cases z),hO,d1,?_⟩;rw[hg];exact h
 |error z=>
  rw[hg]at h;cases z with
  |none=>exact h.elim
  |some x=>
   refine⟨zt X O H x,zG h,O,ds,by rw[<-d1.length];exact ar ds (by rw[hg];intro z;cases z),hO,d1,?_⟩;rw[hg];exact xg
theorem J6{tbl:List (Str×(List D->R D))}{pl:Sem Bool}(tb:nI X.prog X.w X.K X.mg X.base k m ps tbl)(hr:iF k' X.A)(hk:k<=k')(ho:FE X o fo)(ha:FA X (e::es) fas)
  (hns:(e::es).all noStar=true:=by rfl)
  (ht:eval (.Call (.Attribute o m apos) (e::es) [] pos) X.env=(do
   let ov<-eval o X.env
   standAt apos.atName
   let (f,first)<-holding [ov] (getMethod ov m pl)
   Rh pos f first (backTo pos (QY (e::es) X.env)) (backToKw pos (Ri [] X.env))):=by rfl):
  FE X (.Call (.Attribute o m apos) (e::es) [] pos) (lE m tbl fo fas):=
 Cq tb (hr.mono hk) ho (λpins s1 σ H1 O ρ a f od Q g fd _ kp F b ar I1 E1 dO hP=>by
  refine P8 (first:=[.ref a]) (h₀:=X.base) I1.ok.mod.kin kp (eQ (ha pos pins s1 σ H1 _ I1 ⟨O,ρ,E1,(i7.bind hP).imp λas hP vs H2 s2 d2=>xV (vs:=.ref a::vs) ar (E1.all.same s2) (bM.mpr ⟨_,_,rfl,dO.mono (cy s2),d2⟩) ((hP.mono s2).imp λd q v H3 s3 d3=>q v H3 (s2.trans s3) d3)⟩) λus s2 ⟨vs,H2,I2,r,Ex,hx,q2⟩=>⟨I2.kIn,?_⟩) (fg (Nu _ _ ▸ hns).1) (iZ (Nu _ _ ▸ hns).2);exact zL (us:=.ref a::us) (vs:=.ref a::vs) F (hr.mono hk) b hx I2 (.cons rfl r) q2) ht
theorem nu{P:QK}{w:QJ}{K:PD}{mg:Str->Option QI}{base:QN}{c y qual:Str}{C f:QL}{fd:Rm}{st:QZ}{N:List Str}{B:cx}(h1:clsAt K c C)(h2:HH K C)(h3:Meth K C m f)(F:xQ K y qual st f fd)(b:Binds K fd ps [])(SC:bw N ps (aB st))(hb:BodyOk P w K mg base k N qual st f B):
  MethAt P w K mg base (k+1) c m ps (bv B ps.length N.length):=⟨C,f,fd,h1,h2,h3,vC F SC hb,b⟩
theorem wD{K:PD}{H1:Hp}{O:List QL}{c:Str}{fs:List Str}{as:List D}{vs:List V}{C x dx:QL}(hc:clsAt K c C)(hl:as.length=fs.length)(d1:bj K (hid H1 O) as vs)(hO:dW H1 O)(hx:H1 x=none)(hd:H1 dx=none)(ne:dx≠x):
  bE H1 (upd (upd (upd H1 dx (.own x)) x (.ins C dx [])) x (.ins C dx (fs.zip vs)))/\cQ K (hid (upd (upd (upd H1 dx (.own x)) x (.ins C dx [])) x (.ins C dx (fs.zip vs))) O) (.obj c fs as) (.ref x):=by
 have sm:bE H1 (upd (upd (upd H1 dx (.own x)) x (.ins C dx [])) x (.ins C dx (fs.zip vs))):=λb o h=>by
  have n1:=bg h hx;have n2:=bg h hd;rw[aQ n1,aQ n1,aQ n2];exact h
 exact⟨sm,JT.mpr ⟨x,vs,rfl,d1.mono (cy sm),by rw[<-d1.length,hl],C,dx,hc,by rw[jv (hO.not hx),bb]⟩⟩
end
end TG
namespace TG
open PySem PySem.Spec L2
variable[bd]
section
variable{X:Cx}
def MJ:D->Option Str
 |.str z=>some z
 |_=>none
def Lg(a b:D):Option D:=match a,b with
 |.bl c,.bl d=>some (.bl (c==d))
 |_,_=>none
def Ed(a b:D):Option D:=match a,b with
 |.bl c,.bl d=>some (.bl (!(c==d)))
 |_,_=>none
end
structure Mq(K:PD)(C:QL):Prop where
 makes:PN K C=true
 init:PJ K (.ref C) "__init__"=some (some (.builtin "object.__init__"))
 kp:PY K (.ref C)=true
section
variable{X:Cx}{C:QL}{pins:List (QL×Obj)}{σ:St}{H:Hp}{s:QU}{Q:VK}
theorem run_plain(M:Mq X.K C)(I:Inv X pins σ H s)(h:∀x dx,H x=none->H dx=none->dx≠x->Q (.ref x) (upd (upd H dx (.own x)) x (.ins C dx []))):
  QW (model X.prog X.w) X.A (call (.ref C) []) (EP X pins σ Q) X.xe s:=by
 have hq:=h (s.heap.objs.size+1) s.heap.objs.size (I.hok.fresh (Nat.le_succ _)) (I.hok.fresh (M3 _)) (MR (Nat.lt_succ_self _));have I2:=Inv.made (C:=C) I;have e1:((s.heap.push PQ).push (PB C s.heap.objs.size)).get? (s.heap.objs.size+1)=some (PB C s.heap.objs.size):=by
  have:=Ql (s.heap.push PQ) (o:=PB C s.heap.objs.size) rfl
  rwa [Qm]at this
 have hb:∀self,PP (model X.prog X.w) s.heap (bindSpecial (.builtin "object.__init__") self) (.builtin "object.__init__",[self]):=λself=>PySem.W.Looks.of_pure (PySem.W.oi_bind self);refine wpAny_call (Ba I.kIn M.makes M.init hb ?_);have h3:PP (model X.prog X.w) ((s.heap.push PQ).push (PB C s.heap.objs.size)) (isInstance (.ref (s.heap.objs.size+1)) (.type "object")) true:=by
  have h4:PP (model X.prog X.w) ((s.heap.push PQ).push (PB C s.heap.objs.size)) (typeOf (.ref (s.heap.objs.size+1))) (.ref C):=PySem.W.Looks.andThen (PySem.W.Looks.ld e1) PySem.W.Looks.now;exact PySem.W.Looks.andThen h4 (((PR I.kIn M.makes).top).keeps λb o q=>Qk _ (Qk _ q))
 refine codeAny_call_builtin (b:=Builtin.«object.__init__») PySem.W.oi_plain PySem.W.entry_oi ?_;have ha:argsOk "object.__init__" {pos:=[Value.ref (s.heap.objs.size+1)],kw:=[]}:=PySem.W.oi_args _;refine PySem.W.check_slot (i:="object.__init__") (owner:="object") (n:="__init__") (self:=Value.ref (s.heap.objs.size+1)) (rest:=[]) (kw:=[]) PySem.W.oi_kind PySem.W.oi_split h3 ha ?_;rw[PySem.W.oi_run];exact Q4 ⟨rfl,V.ref (s.heap.objs.size+1),_,I2,rfl,hq⟩
def zp(K:PD)(mg:Str->Option QI)(c:Str):Prop:=∃C,clsAt K c C/\Mq K C/\mg c=some (.ref C)
theorem Ka{c:Str}{p pos:Pos}(NA:zp X.K X.mg c)(hg:Gl X c)(hdb:(c==("__debug__":Str))=false:=by decide):FE X (.Call (.Name c p) [] [] pos) (fC (.obj c [] [])):=by
 obtain⟨C,h1,h2,h3⟩:=NA;intro pins s σ H Q I ⟨O,ρ,E,hF⟩;refine Rq (zx I hg h3 ?_ hdb);refine PySem.W.callWith_K0 I.kIn h2.kp (run_plain h2 I λx dx hx hd ne=>?_);obtain⟨sm,dn⟩:=wD (fs:=[]) (as:=[]) (vs:=[]) h1 rfl (cY.mpr rfl) E.all hx hd ne;have e:upd (upd (upd H dx (.own x)) x (.ins C dx [])) x (.ins C dx (([]:List Str).zip []))=upd (upd H dx (.own x)) x (.ins C dx []):=by rw[Es];rfl
 rw[e]at sm dn;exact hF _ _ sm dn
end
end TG
namespace TG
open PySem PySem.Spec PyProof.Rows L2
variable[bd]
def eK:List D->List D->Option Bool
 |[],[]=>some false
 |[],_::_=>some true
 |_::_,[]=>some false
 |a::as,b::bs=>match a,b with
  |.int i,.int j=>if i=j then eK as bs else some (decide (i<j))
  |.str x,.str y=>if x=y then eK as bs else some (decide (x.cps.toList<y.cps.toList))
  |_,_=>none
inductive gq:List QI->List D->Prop where
 |nil:gq [] []
 |int (i:Int) (t:Tok) {vs:List QI} {ds:List D} (h:gq vs ds):gq (.int i t::vs) (.int i::ds)
 |str (x:Str) (t:Tok) {vs:List QI} {ds:List D} (h:gq vs ds):gq (.str x t::vs) (.str x::ds)
theorem gq.length:∀{vs:List QI}{ds:List D},gq vs ds->vs.length=ds.length
 |_,_,.nil=>rfl
 |_,_,.int _ _ h=>by rw[NE,NE,h.length]
 |_,_,.str _ _ h=>by rw[NE,NE,h.length]
theorem Fm(A:QT)(s:QU)(a:Int)(t:Tok)(c:Int)(u:Tok):∃e,SeqAt.EqAt A s (.int a t) (.int c u) e/\(e=true↔a=c):=
 ⟨(a==c),SeqAt.EqAt.int_int a t c u,by simp⟩
theorem FP(A:QT)(s:QU)(a:Str)(t:Tok)(c:Str)(u:Tok):∃e,SeqAt.EqAt A s (.str a t) (.str c u) e/\(e=true↔a=c):=
 ⟨(a==c),SeqAt.EqAt.str_str a t c u,by simp⟩
theorem JA(A:QT)(s:QU)(a:Str)(t:Tok)(c:Str)(u:Tok)(prog:QK)(w:QJ)(E:QI->QU->Prop)(Q:QI->QU->Prop)(h:Q (.bool (decide (a.cps.toList<c.cps.toList))) s):
  QW (model prog w) A (richCompare .Lt (.str a t) (.str c u)) Q E s:=
 (PySem.P.lt_str h:QW (model prog w) A (Rb .Lt (.str a t) (.str c u)) Q E s)
section
open PySem.SeqAt
open PySem.AutoSeq1 (wpAny_loadPart')
open PySem.MeetsSeq PySem.MeetsSeq2 PySem.MeetsSeq3
set_option maxHeartbeats 1000000 in
theorem sY(l b:QL)(items items2:Array QI)(n n2:Nat)(dd dd2:Option QL)(sl sl2:Array (Option QI))(ns ms:List D)(r:Bool)(hi:gq items.toList ns)(hj:gq items2.toList ms)(hr:eK ns ms=some r):
  Meets (Builtin.«tuple.__lt__» ⟨[.ref l,.ref b],[]⟩)
   (fun _ R s=>s.heap.get? l=some { cls:=.type "tuple",dict:=dd,data:=.seq items n,slots:=sl }/\s.heap.get? b=some { cls:=.type "tuple",dict:=dd2,data:=.seq items2 n2,slots:=sl2 } /\
    R (.ok (.ret (.bool r))) s):=
 .of_wp λprog w A R s h=>by
  obtain⟨hp,g,d,tk,os⟩:=s;obtain⟨hl,hb,h⟩:=h;have f2:=AutoSeq1.sub_tuple_tuple;have z1:items.size=ns.length:=by rw[<-hi.length];simp
  have z2:items2.size=ms.length:=by rw[<-hj.length];simp
  wp_walk using wpAny_loadPart' hl,wpAny_loadPart' hb,wpAny_forIn_list _ (λrest b s'=>b.1=none/\s'=⟨hp,g,d,tk,os⟩/\∃(vs ws:List QI)(ns' ms':List D),rest=vs.zip ws/\
   gq vs ns'/\gq ws ms'/\ns'.length+items2.size=ms'.length+items.size/\eK ns' ms'=some r/\R (.ok (.ret (.bool r))) ⟨hp,g,d,tk,os⟩) _
  case turn=>
   rintro⟨y,x⟩ rest b s' ⟨hb',rfl,vs,ws,ns',ms',hz,hvi,hwi,hlen,hL,hR⟩;cases hvi with
   |nil=>rw[List.zip_nil_left]at hz;cases hz
   |int a t hvi'=>
    cases hwi with
    |nil=>rw[Ow]at hz;cases hz
    |str c u hwi'=>cases hL
    |int c u hwi'=>
     rw[Ov]at hz;injection hz with hyx hrest;injection hyx with hy hx;subst hy hx;have hL':(if a=c then eK _ _ else some (decide (a<c)))=some r:=hL;simp only[NE]at hlen;obtain⟨e,he,hiff⟩:=Fm A.in1 ⟨hp,g,d,tk,os⟩ a t c u;refine Q5 (he prog w _ _ ?_);cases e with
     |true=>
      rw[if_pos (hiff.mp rfl)]at hL'
      wp_walk
      exact⟨rfl,rfl,_,_,_,_,hrest,hvi',hwi',by omega,hL',hR⟩
     |false=>
      rw[if_neg (λq=>absurd (hiff.mpr q) M9)]at hL';cases hL';have hri:=HT.Ja A.in1 ⟨hp,g,d,tk,os⟩ a t c u prog w
      wp_walk using hri
      exact⟨_,rfl,by simpa using hR⟩
   |str a t hvi'=>
    cases hwi with
    |nil=>rw[Ow]at hz;cases hz
    |int c u hwi'=>cases hL
    |str c u hwi'=>
     rw[Ov]at hz;injection hz with hyx hrest;injection hyx with hy hx;subst hy hx;have hL':(if a=c then eK _ _ else some (decide (a.cps.toList<c.cps.toList)))=some r:=hL;simp only[NE]at hlen;obtain⟨e,he,hiff⟩:=FP A.in1 ⟨hp,g,d,tk,os⟩ a t c u;refine Q5 (he prog w _ _ ?_);cases e with
     |true=>
      rw[if_pos (hiff.mp rfl)]at hL'
      wp_walk
      exact⟨rfl,rfl,_,_,_,_,hrest,hvi',hwi',by omega,hL',hR⟩
     |false=>
      rw[if_neg (λq=>absurd (hiff.mpr q) M9)]at hL';cases hL';have hri:=JA A.in1 ⟨hp,g,d,tk,os⟩ a t c u prog w
      wp_walk using hri
      exact⟨_,rfl,by simpa using hR⟩
  case fin=>
   rintro⟨b1,b2⟩ s' ⟨hb',rfl,vs,ws,ns',ms',hz,hvi,hwi,hlen,hL,hR⟩;simp only at hb';subst hb';have hv:r=decide (items.size<items2.size):=by
    have l1:=hvi.length;have l2:=hwi.length;cases ns' with
    |nil=>
     cases ms' with
     |nil=>
      simp only[NF]at hlen;cases hL;exact(decide_eq_false ‹0›).symm
     |cons c u=>
      simp only[NF,NE]at hlen;cases hL;exact(decide_eq_true ‹0›).symm
    |cons a t=>
     cases ms' with
     |nil=>
      simp only[NF,NE]at hlen;cases hL;exact(decide_eq_false ‹0›).symm
     |cons c u=>
      have:=congrArg List.length hz
      simp only[NF,List.length_zip,l1,l2,NE]at this;omega
   rw[hv]at hR
   wp_walk
   exact⟨_,rfl,by simpa [Builtin.Tuple.tupleCompareSizes]using hR⟩
  case h=>
   exact⟨rfl,rfl,items.toList,items2.toList,ns,ms,rfl,hi,hj,by omega,hr,h⟩
end
section
variable{X:Cx}
theorem Bl{α:Type}{c:Bool}{o:Option α}{a:α}(h:(if c then o else none)=some a):c=true/\o=some a:=by
 cases c with
 |true=>exact⟨rfl,h⟩
 |false=>cases h
theorem yG{prog:QK}{w:QJ}{A:QT}{E:QI->QU->Prop}{s:QU}{l b:QL}{items items2:Array QI}{ns ms:List D}{r:Bool}{Q:QI->QU->Prop}(hl:QP s.heap l items)(hb:QP s.heap b items2)(hi:gq items.toList ns)(hj:gq items2.toList ms)(hr:eK ns ms=some r)
  (hu:A.units<Rl) (h:Q (.bool r) s):QW (model prog w) A (Rb .Lt (.ref l) (.ref b)) Q E s:=by
 obtain⟨⟨cls,dd,data,sl⟩,ho,hc,n,hd⟩:=id hl;obtain⟨⟨cls2,dd2,data2,sl2⟩,ho2,hc2,n2,hd2⟩:=id hb;simp only at hc hd hc2 hd2;subst hc hd hc2 hd2;exact richCompare_meets_room (op:=.Lt) ⟨_,ho,rfl⟩ ⟨_,ho2,rfl⟩ PySem.F.slot_tuple_lt PySem.F.entry_tuple_lt (PySem.F.args_tuple_lt_2 _ _) (sY l b items items2 n n2 dd dd2 sl sl2 ns ms r hi hj hr)
  ⟨ho,ho2,show Value.bool r≠Value.notImplemented/\Q (.bool r) s from⟨(λx=>nomatch x),h⟩⟩ hu
def nJ:List D->Bool
 |[]=>true
 |.int _::r=>nJ r
 |.str _::r=>nJ r
 |_=>false
theorem jS{K:PD}{H:Hp}:∀{ds:List D}{vs:List V}{us:List QI},nJ ds=true->bj K H ds vs->Vals vs us->gq us ds
 |[],vs,us,_,h,r=>by
  rw[cY]at h;subst h;cases r;exact .nil
 |d::ds,vs,us,hf,h,r=>by
  obtain⟨v,r',e,h1,h2⟩:=bM.mp h;subst e;cases r with
  |cons q1 q2=>
   cases d with
   |int i=>
    rw[fj]at h1;subst h1;obtain⟨t,rfl⟩:=q1;exact .int i t (jS hf h2 q2)
   |str x=>
    rw[fh]at h1;subst h1;obtain⟨t,rfl⟩:=q1;exact .str x t (jS hf h2 q2)
   |_=>cases hf
def p3(a b:D):Option D:=match a,b with
 |.int i,.int j=>some (.bl (decide (i<j)))
 |.str x,.str y=>some (.bl (decide (x.cps.toList<y.cps.toList)))
 |.tup xs,.tup ys=>if nJ xs&&nJ ys then(eK xs ys).bind λr=>some (.bl r)else none
 |_,_=>none
theorem nQ(hu:X.A.units+64<Rl):kY X (Rb .Lt) (rD X.K p3):=by
 intro pins s σ H x y u v Q I rx ry ⟨O,a,b,d,hO,ha,hb,hg,q⟩;cases a with
 |int i=>
  cases b with
  |int j=>
   cases hg;exact Ip pins s σ H x y u v Q I rx ry ⟨i,j,fj.mp ha,fj.mp hb,q _ H (bE.refl H) (lG.mpr rfl)⟩
  |_=>cases hg
 |str i=>
  cases b with
  |str j=>
   cases hg;exact Ai pins s σ H x y u v Q I rx ry ⟨i,j,fh.mp ha,fh.mp hb,q _ H (bE.refl H) (lG.mpr rfl)⟩
  |_=>cases hg
 |tup xs=>
  cases b with
  |tup ys=>
   obtain⟨h1,h2⟩:=Bl hg;obtain⟨r,e1,e2⟩:=bind_some h2;cases e2;rw[Nu]at h1;obtain⟨p,vs,ex,g1,g2⟩:=cG.mp ha;obtain⟨p',vs',ey,g1',g2'⟩:=cG.mp hb;subst ex ey;cases rx;cases ry;obtain⟨its,r1,t1,_⟩:=I.tuple (cq (aK H O) g1);obtain⟨its2,r2,t2,_⟩:=I.tuple (cq (aK H O) g1');exact yG t1 t2 (jS h1.1 g2 r1) (jS h1.2 g2' r2) e1 ‹0› (Ct I (q _ H (bE.refl H) (lG.mpr rfl)) rfl)
  |_=>cases hg
 |_=>cases hg
end
end TG
namespace TG
open PySem PySem.Spec L2
variable[bd]
def jB(x:Str)(n:Int):Str:=if(n==1||x.length==0)=true then x else⟨(List.replicate n.toNat x.cps).foldl (·++·) #[]⟩
theorem foldl_size:∀(n:Nat)(c a:Array Nat),((List.replicate n c).foldl (·++·) a).size=a.size+n*c.size
 |0,_,a=>by simp
 |n+1,c,a=>by
  rw[Ox,Oy,foldl_size n c,Array.size_append,Nat.succ_mul];omega
theorem vT{x:Str}{n:Int}(h:1<=n):(jB x n).length=n.toNat*x.length:=by
 unfold jB;split
 ·rename_i q;rw[N2]at q;rcases q with q|q
  ·have:n=1:=(by simpa using q);rw[this];simp
  ·have:x.length=0:=(by simpa using q);rw[this];simp
 ·show((List.replicate n.toNat x.cps).foldl (·++·) #[]).size=n.toNat*x.cps.size;rw[foldl_size];simp
def rV(a b:D):Option D:=match a,b with
 |.int i,.int j=>oH (.int i) (.int j)
 |.str x,.int n=>if decide (1<=n/\n<=1000/\x.length<=1000)then some (.str (jB x n))else none
 |_,_=>none
section
variable{X:Cx}
theorem oj:kY X (Ra .Mult) (rD X.K rV):=by
 intro pins s σ H x y u v Q I rx ry ⟨O,a,b,d,hO,ha,hb,hg,q⟩;cases a with
 |int i=>
  cases b with
  |int j=>exact j8 pins s σ H x y u v Q I rx ry (kF (.int i) (.int j) d x y O H Q hO hg ha hb q)
  |_=>cases hg
 |str z=>
  cases b with
  |int n=>
   obtain⟨h1,h2⟩:=bX hg;subst h2;obtain⟨n1,n2,zl⟩:=of_decide_eq_true h1;rw[fh]at ha;rw[fj]at hb;subst ha hb;obtain⟨t,rfl⟩:=rx;obtain⟨t',rfl⟩:=ry;have zn:z.length*n.toNat<=1000*1000:=Nat.mul_le_mul zl ‹0›;refine P.mul_str (by rw[decide_eq_false ‹0›,decide_eq_false ‹0›];rfl) (λ_ _=>?_) (λ_ _=>?_) ?_
   ·have:(2^63-1:Int)/n>=(2^63-1)/1000:=by
     rw[ge_iff_le,Int.le_ediv_iff_mul_le ‹0›];have h3:(2^63-1:Int)/1000*n<=(2^63-1)/1000*1000:=Int.mul_le_mul_of_nonneg_left n2 (by decide);have h4:(2^63-1:Int)/1000*1000<=2^63-1:=(by decide);omega
    have h5:(2^63-1:Int)/1000=9223372036854775:=(by decide);omega
   ·unfold Builtin.Str.tooLong;rw[decide_eq_false];rw[Rf];omega
   ·rw[if_neg ‹0›];have fin:∀tk,EP X pins σ Q (.str (jB z n) tk) {s with toks:=s.toks+1}/\EP X pins σ Q (.str (jB z n) tk) s:=λtk=>⟨⟨.str (jB z n),H,I.tok _,⟨_,rfl⟩,q _ H (bE.refl H) (fh.mpr rfl)⟩,⟨.str (jB z n),H,I,⟨_,rfl⟩,q _ H (bE.refl H) (fh.mpr rfl)⟩⟩
    by_cases e:(n==1||z.length==0)=true
    ·rw[if_pos e]
     have:jB z n=z:=(by unfold jB;rw[if_pos e]);rw[this]at fin;exact(fin t).2
    ·rw[if_neg e];have e2:jB z n=⟨(List.replicate n.toNat z.cps).foldl (·++·) #[]⟩:=(by unfold jB;rw[if_neg e]);rw[e2]at fin;refine⟨?_,(fin _).1⟩;have rl:=vT (x:=z) (n:=n) ‹0›;rw[e2]at rl;rw[rl,Rf,Nat.mul_comm];omega
  |_=>cases hg
 |_=>cases hg
end
end TG
namespace TG
open PySem PySem.Spec PyProof.Rows PySem.W L2
variable[bd]
theorem rW:∀a:List Nat,¬a<a
 |[]=>Oz _
 |x::xs=>λh=>by
  rcases List.cons_lt_cons_iff.mp h with h|⟨_,h⟩
  ·omega
  ·exact rW xs h
theorem lw:∀{a b c:List Nat},a<b->b<c->a<c
 |_,_,[],_,h=>absurd h (Oz _)
 |_,[],_::_,h,_=>absurd h (Oz _)
 |[],_::_,_::_,_,_=>OA _ _
 |x::xs,y::ys,z::zs,h,h'=>by
  rw[OB]at h h' ⊢;rcases h with h|⟨e,h⟩<;>rcases h' with h'|⟨e',h'⟩
  ·exact .inl ‹0›
  ·exact .inl ‹0›
  ·exact .inl ‹0›
  ·exact .inr ⟨by omega,lw h h'⟩
theorem CT:∀a b:List Nat,a<b\/a=b\/b<a
 |[],[]=>.inr (.inl rfl)
 |[],_::_=>.inl (OA _ _)
 |_::_,[]=>.inr (.inr (OA _ _))
 |x::xs,y::ys=>by
  rw[OB,OB];rcases Nat.lt_trichotomy x y with h|h|h
  ·exact .inl (.inl h)
  ·rcases CT xs ys with q|q|q
   ·exact .inl (.inr ⟨h,q⟩)
   ·exact .inr (.inl (by rw[h,q]))
   ·exact .inr (.inr (.inr ⟨h.symm,q⟩))
  ·exact .inr (.inr (.inl h))
theorem CK{x y:Str}(h:x.cps.toList=y.cps.toList):x=y:=by
 cases x;cases y;congr 1;exact Array.toList_inj.mp h
inductive Sh:List Bool->List D->Prop where
 |nil:Sh [] []
 |int (i:Int) {bs:List Bool} {ds:List D} (h:Sh bs ds):Sh (true::bs) (.int i::ds)
 |str (x:Str) {bs:List Bool} {ds:List D} (h:Sh bs ds):Sh (false::bs) (.str x::ds)
theorem Sh.length:∀{σ:List Bool}{a:List D},Sh σ a->a.length=σ.length
 |_,_,.nil=>rfl
 |_,_,.int _ h=>by rw[NE,NE,h.length]
 |_,_,.str _ h=>by rw[NE,NE,h.length]
theorem mM:∀{σ:List Bool}{a:List D},Sh σ a->nJ a=true
 |_,_,.nil=>rfl
 |_,_,.int i h=>by
  unfold nJ;exact mM h
 |_,_,.str i h=>by
  unfold nJ;exact mM h
theorem qQ(i j:Int)(as bs:List D):eK (.int i::as) (.int j::bs)=if i=j then eK as bs else some (decide (i<j)):=by rw[eK]
theorem sA(x y:Str)(as bs:List D):eK (.str x::as) (.str y::bs)=if x=y then eK as bs else some (decide (x.cps.toList<y.cps.toList)):=by rw[eK]
theorem C3:eK [] []=some false:=by rw[eK]
theorem kc:∀{σ:List Bool}{a:List D},Sh σ a->eK a a=some false
 |_,_,.nil=>C3
 |_,_,.int i h=>by rw[qQ,if_pos rfl];exact kc h
 |_,_,.str x h=>by rw[sA,if_pos rfl];exact kc h
theorem j9:∀{σ:List Bool}{a b:List D},Sh σ a->Sh σ b->(eK a b=some true/\eK b a=some false/\a≠b)\/a=b\/(eK b a=some true/\eK a b=some false/\a≠b)
 |_,_,_,.nil,.nil=>.inr (.inl rfl)
 |_,_,_,.int i h,.int j h'=>by
  rw[qQ,qQ];by_cases e:i=j
  ·subst e;rw[if_pos rfl,if_pos rfl];rcases j9 h h' with⟨q1,q2,q3⟩|q|⟨q1,q2,q3⟩
   ·exact .inl ⟨q1,q2,λz=>q3 (by injection z)⟩
   ·exact .inr (.inl (by rw[q]))
   ·exact .inr (.inr ⟨q1,q2,λz=>q3 (by injection z)⟩)
  ·rw[if_neg e,if_neg (λz=>e z.symm)];rcases Int.lt_or_gt_of_ne e with q|q
   ·exact .inl ⟨by rw[decide_eq_true q],by rw[decide_eq_false ‹0›],λz=>e (by injection z with z1;injection z1)⟩
   ·exact .inr (.inr ⟨by rw[decide_eq_true q],by rw[decide_eq_false ‹0›],λz=>e (by injection z with z1;injection z1)⟩)
 |_,_,_,.str x h,.str y h'=>by
  rw[sA,sA];by_cases e:x=y
  ·subst e;rw[if_pos rfl,if_pos rfl];rcases j9 h h' with⟨q1,q2,q3⟩|q|⟨q1,q2,q3⟩
   ·exact .inl ⟨q1,q2,λz=>q3 (by injection z)⟩
   ·exact .inr (.inl (by rw[q]))
   ·exact .inr (.inr ⟨q1,q2,λz=>q3 (by injection z)⟩)
  ·rw[if_neg e,if_neg (λz=>e z.symm)];rcases CT x.cps.toList y.cps.toList with q|q|q
   ·exact .inl ⟨by rw[decide_eq_true q],by rw[decide_eq_false λz=>rW _ (lw q z)],λz=>e (by injection z with z1;injection z1)⟩
   ·exact absurd (CK q) e
   ·exact .inr (.inr ⟨by rw[decide_eq_true q],by rw[decide_eq_false λz=>rW _ (lw q z)],λz=>e (by injection z with z1;injection z1)⟩)
theorem nq:∀{σ:List Bool}{a b c:List D},Sh σ a->Sh σ b->Sh σ c->eK a b=some true->eK b c=some true->eK a c=some true
 |_,_,_,_,.nil,.nil,.nil,h,_=>by rw[C3]at h;cases h
 |_,_,_,_,.int i h,.int j h',.int k h'',q,q'=>by
  rw[qQ]at q q' ⊢;by_cases e:i=j
  ·subst e;rw[if_pos rfl]at q;by_cases e':i=k
   ·subst e';rw[if_pos rfl]at q' ⊢;exact nq h h' h'' q q'
   ·rw[if_neg e']at q' ⊢;exact q'
  ·rw[if_neg e]at q;have q1:=of_decide_eq_true (Option.some.inj q);by_cases e':j=k
   ·subst e';rw[if_neg e,decide_eq_true q1]
   ·rw[if_neg e']at q';have q2:=of_decide_eq_true (Option.some.inj q');rw[if_neg ‹0›,decide_eq_true ‹0›]
 |_,_,_,_,.str i h,.str j h',.str k h'',q,q'=>by
  rw[sA]at q q' ⊢;by_cases e:i=j
  ·subst e;rw[if_pos rfl]at q;by_cases e':i=k
   ·subst e';rw[if_pos rfl]at q' ⊢;exact nq h h' h'' q q'
   ·rw[if_neg e']at q' ⊢;exact q'
  ·rw[if_neg e]at q;have q1:=of_decide_eq_true (Option.some.inj q);by_cases e':j=k
   ·subst e';rw[if_neg e,decide_eq_true q1]
   ·rw[if_neg e']at q';have q2:=of_decide_eq_true (Option.some.inj q');rw[if_neg (show¬i=k from λz=>by rw[z]at q1;exact rW _ (lw q1 q2)),decide_eq_true (lw q1 q2)]
theorem BV{σ:List Bool}{a b:List D}(h:Sh σ a)(h':Sh σ b)(q:eK a b=some true):eK b a=some false:=by
 rcases j9 h h' with⟨_,q2,_⟩|e|⟨_,q2,_⟩
 ·exact q2
 ·subst e;rw[kc h]at q;cases q
 ·rw[q2]at q;cases q
def kLt(a b:List D):Bool:=eK a b==some true
theorem EH{a b:List D}:kLt a b=true↔eK a b=some true:=by unfold kLt;simp
section
variable{α:Type}
def AI(key:α->List D)(x:α):List α->List α
 |[]=>[x]
 |y::ys=>if kLt (key x) (key y)then x::y::ys else y::AI key x ys
def iW(key:α->List D):List α->List α
 |[]=>[]
 |x::xs=>AI key x (iW key xs)
theorem oV(key:α->List D)(x:α):∀ys:List α,(AI key x ys).Perm (x::ys)
 |[]=>.refl _
 |y::ys=>by
  unfold AI;split
  ·exact .refl _
  ·exact(List.Perm.cons y (oV key x ys)).trans (.swap x y ys)
theorem fm(key:α->List D):∀xs:List α,(iW key xs).Perm xs
 |[]=>.refl _
 |x::xs=>(oV key x _).trans (.cons x (fm key xs))
def xr(key:α->List D)(xs:List α):Prop:=xs.Pairwise λx y=>eK (key x) (key y)=some true
theorem wf{key:α->List D}{σ:List Bool}{x:α}(hx:Sh σ (key x)):∀{ys:List α},(∀y∈ys,Sh σ (key y)/\key x≠key y)->xr key ys->xr key (AI key x ys)
 |[],_,_=>OC _ _
 |y::ys,h,p=>by
  have p':=List.pairwise_cons.mp p;obtain⟨hy,ne⟩:=h y MV;unfold AI;split
  ·rename_i q;have q:=EH.mp q;refine List.pairwise_cons.mpr ⟨λz hz=>?_,p⟩;rcases List.mem_cons.mp hz with rfl|hz
   ·exact q
   ·exact nq hx hy (h z (MX _ hz)).1 q (p'.1 z hz)
  ·rename_i q;have q:eK (key y) (key x)=some true:=by
    rcases j9 hx hy with⟨z,_⟩|z|⟨z,_⟩
    ·exact absurd (EH.mpr z) q
    ·exact absurd z ne
    ·exact z
   refine List.pairwise_cons.mpr ⟨λz hz=>?_,wf hx (λz hz=>h z (MX _ hz)) p'.2⟩;rcases List.mem_cons.mp ((oV key x ys).mem_iff.mp hz)with rfl|hz
   ·exact q
   ·exact p'.1 z hz
theorem mI{key:α->List D}{σ:List Bool}:∀{xs:List α},(∀x∈xs,Sh σ (key x))->xs.Pairwise (λx y=>key x≠key y)->xr key (iW key xs)
 |[],_,_=>List.Pairwise.nil
 |x::xs,h,p=>by
  have p':=List.pairwise_cons.mp p;refine wf (h x MV) (λy hy=>?_) (mI (λy hy=>h y (MX _ hy)) p'.2);have hy:=(fm key xs).mem_iff.mp hy;exact⟨h y (MX _ hy),p'.1 y hy⟩
theorem zW{key:α->List D}{σ:List Bool}:∀{xs ys:List α},(∀x∈xs,Sh σ (key x))->xr key xs->xr key ys->xs.Perm ys->xs=ys
 |[],ys,_,_,_,e=>(List.perm_nil.mp e.symm).symm
 |x::xs,[],_,_,_,e=>List.perm_nil.mp e
 |x::xs,y::ys,h,p,q,e=>by
  have p':=List.pairwise_cons.mp p;have q':=List.pairwise_cons.mp q;have exy:x=y:=by
   rcases List.mem_cons.mp (e.mem_iff.mp MV)with z|z
   ·exact z
   ·have w1:=q'.1 x z;rcases List.mem_cons.mp (e.symm.mem_iff.mp MV)with z'|z'
    ·exact z'.symm
    ·have w2:=p'.1 y z'
     have:=BV (h x MV) (h y (MX _ z')) w2
     rw[w1]at this;cases this
  subst exy;rw[zW (λz hz=>h z (MX _ hz)) p'.2 q'.2 (List.Perm.cons_inv e)]
theorem oB{key:α->List D}{σ:List Bool}{xs ys:List α}(h:∀x∈xs,Sh σ (key x))(p:xs.Pairwise λx y=>key x≠key y)(q:xr key ys)(e:ys.Perm xs):iW key xs=ys:=
 zW (λx hx=>h x ((fm key xs).mem_iff.mp hx)) (mI h p) q ((fm key xs).trans e.symm)
def rank(ks:List (List D))(i:Nat):Nat:=(ks.filter λk=>kLt k (ks.getD i [])).length
theorem qB{ks:List (List D)}{σ:List Bool}(h:∀k∈ks,Sh σ k){i j:Nat}(hi:i<ks.length)(hj:j<ks.length):decide (rank ks i<rank ks j)=kLt (ks.getD i []) (ks.getD j []):=by
 have gi:ks.getD i []=ks[i]:=by simp[hi]
 have gj:ks.getD j []=ks[j]:=by simp[hj]
 have mono:∀a b:List D,Sh σ a->Sh σ b->eK a b=some true->∀l:List (List D),(∀k∈l,Sh σ k)->(l.filter λk=>kLt k a).length<=(l.filter λk=>kLt k b).length/\(a∈l->(l.filter λk=>kLt k a).length<(l.filter λk=>kLt k b).length):=by
  intro a b ha hb hab l
  induction l with
  |nil=>exact λ_=>⟨M3 _,λz=>nomatch z⟩
  |cons k l ih=>
   intro hl;obtain⟨i1,i2⟩:=ih λz hz=>hl z (MX _ hz);have hk:=hl k MV;by_cases q:kLt k a=true
   ·have q':kLt k b=true:=EH.mpr (nq hk ha hb (EH.mp q) hab);rw[OD (p:=λk=>kLt k a) q,OD (p:=λk=>kLt k b) q',NE,NE];refine⟨by omega,λz=>?_⟩;rcases List.mem_cons.mp z with rfl|z
    ·rw[EH,kc ha]at q;cases q
    ·have:=i2 z;omega
   ·rw[OG (p:=λk=>kLt k a) q];by_cases q':kLt k b=true
    ·rw[OD (p:=λk=>kLt k b) q',NE];exact⟨by omega,λ_=>by omega⟩
    ·rw[OG (p:=λk=>kLt k b) q'];refine⟨i1,λz=>?_⟩;rcases List.mem_cons.mp z with rfl|z
     ·exact absurd (EH.mpr hab) q'
     ·exact i2 z
 unfold rank;rw[gi,gj];have hi':=h _ (OH hi);have hj':=h _ (OH hj);rcases j9 hi' hj' with⟨z,_⟩|z|⟨z,z',_⟩
 ·rw[EH.mpr z];exact decide_eq_true ((mono _ _ hi' hj' z ks h).2 (OH hi))
 ·rw[z]
  have:kLt ks[j] ks[j]=false:=by unfold kLt;rw[kc hj'];rfl
  rw[this];exact decide_eq_false (MQ _)
 ·have e:kLt ks[i] ks[j]=false:=by unfold kLt;rw[z'];rfl
  rw[e];exact decide_eq_false (Nat.not_lt.mpr (mono _ _ hj' hi' z ks h).1)
end
section
variable{cmp:Nat->Nat->(Bool->QU->Prop)->QU->Prop}{r:Nat->Nat}{N:Nat}
def lN(cmp:Nat->Nat->(Bool->QU->Prop)->QU->Prop)(r:Nat->Nat)(N:Nat)(s:QU):Prop:=∀(i j:Nat)(C:Bool->QU->Prop),i<N->j<N->C (decide (r i<r j)) s->cmp i j C s
def PM(N:Nat)(p:Array Nat):Prop:=p.Perm (List.toArray (List.range N))
theorem PM.size{p:Array Nat}(h:PM N p):p.size=N:=by
 have:=h.size_eq;simpa using this
theorem PM.lt{p:Array Nat}(h:PM N p){i:Nat}(hi:i<N):p.getD i 0<N:=by
 have hs:=h.size;have e:p.getD i 0=p[i]'‹0›:=by simp[Array.getD,hs,hi]
 rw[e];have m:p[i]'‹0›∈p:=Array.getElem_mem _
 have:=(h.mem_iff (a:=p[i]'‹0›)).mp m
 simpa using this
theorem PM.rev{p:Array Nat}(h:PM N p)(i j:Nat):PM N (kas_rev p i j):=(mirror_perm p i j _).trans h
abbrev Rk(r:Nat->Nat)(p:Array Nat)(i:Nat):Nat:=r (p.getD i 0)
theorem vK{p:Array Nat}{i j:Nat}(hj:j<=p.size)(k:Nat):Rk r (kas_rev p i j) k=if i<=k/\k<j then Rk r p (i+j-1-k)else Rk r p k:=by
 have e:=getElem?_mirror_all (xs:=p) (i:=i) (j:=j) hj k;have g:∀(q:Array Nat)(k:Nat),q.getD k 0=(q[k]?).getD 0:=λq k=>by simp
 show r ((kas_rev p i j).getD k 0)=_;rw[g];show r (((mirror p i j ((j-i)/2))[k]?).getD 0)=_;rw[e];split
 ·show _=r (p.getD _ 0);rw[g]
 ·show _=r (p.getD _ 0);rw[g]
theorem De{p:Array Nat}{src d:Nat}(hs:src<p.size)(hd:d<=src)(k:Nat):Rk r (bubble p src d) k=if k=src-d then Rk r p src else if src-d<k/\k<=src then Rk r p (k-1)else Rk r p k:=by
 have e:=getElem?_bubble (xs:=p) hs d hd k;have g:∀(q:Array Nat)(k:Nat),q.getD k 0=(q[k]?).getD 0:=λq k=>by simp
 show r ((bubble p src d).getD k 0)=_;rw[g,e];split
 ·show _=r (p.getD _ 0);rw[g]
 ·split
  ·show _=r (p.getD _ 0);rw[g]
  ·show _=r (p.getD _ 0);rw[g]
def Up(r:Nat->Nat)(p:Array Nat)(k:Nat):Prop:=∀i j,i<=j->j<k->Rk r p i<=Rk r p j
def Dn(r:Nat->Nat)(p:Array Nat)(k:Nat):Prop:=∀i j,i<=j->j<k->Rk r p j<=Rk r p i
variable{s:QU}
theorem yw(hc:lN cmp r N s){p:Array Nat}(hp:PM N p){G:Nat->QU->Prop}:∀(f n:Nat),1<=n->n+f<=N->Up r p n->(∀m,n<=m->m<=n+f->Up r p m->(m=n+f\/Rk r p m<Rk r p (m-1))->G m s)->(kas_asc p f n).kasWp cmp G s
 |0,n,_,_,u,h=>h n (M3 _) (M3 _) u (.inl rfl)
 |f+1,n,h1,h2,u,h=>by
  refine hc _ _ _ (hp.lt ‹0›) (hp.lt ‹0›) ?_;by_cases q:Rk r p n<Rk r p (n-1)
  ·rw[decide_eq_true q];dsimp only;rw[if_pos rfl];exact h n (M3 _) ‹0› u (.inr q)
  ·rw[decide_eq_false q];dsimp only;rw[if_neg M9];refine yw hc hp f (n+1) ‹0› ‹0› (λi j hij hj=>?_) λm a b=>?_
   ·by_cases hjn:j<n
    ·exact u i j hij hjn
    ·have ej:j=n:=(by omega);subst ej;by_cases ei:i=j
     ·subst ei;exact M3 _
     ·have:=u i (j-1) ‹0› ‹0›
      omega
   ·intro um hm;exact h m ‹0› ‹0› um (by rcases hm with z|z;exact .inl ‹0›;exact .inr z)
theorem Dx{p:Array Nat}{n q:Nat}(hn:n<=p.size)(hq:q+1<=n)(he:∀i,n-(q+1)<=i->i<n->Rk r p i=Rk r p (n-1))(k:Nat):Rk r (kas_rev p (n-(q+1)) n) k=Rk r p k:=by
 rw[vK hn];split
 ·rename_i h;rw[he _ ‹0› ‹0›,he k h.1 h.2]
 ·rfl
theorem qF(hc:lN cmp r N s){G:Array Nat×Nat×Nat->QU->Prop}:∀(f:Nat)(p:Array Nat)(n q:Nat),PM N p->1<=n->n+f<=N->Dn r p n->q+1<=n->(∀i,n-(q+1)<=i->i<n->Rk r p i=Rk r p (n-1))->
  (∀p' m q',PM N p'->n<=m->m<=n+f->Dn r p' m->q'+1<=m->(∀i,m-(q'+1)<=i->i<m->Rk r p' i=Rk r p' (m-1))->G (p',m,q') s)->(kas_desc f p n q).kasWp cmp G s
 |0,p,n,q,hp,_,_,d,hq,he,h=>h p n q hp (M3 _) (M3 _) d hq he
 |f+1,p,n,q,hp,h1,h2,d,hq,he,h=>by
  have hs:=hp.size;have step:∀p',(∀k,Rk r p' k=Rk r p k)->Rk r p n<=Rk r p (n-1)->Dn r p' (n+1):=λp' hk hl i j hij hj=>by
   rw[hk,hk];by_cases hjn:j<n
   ·exact d i j hij hjn
   ·have ej:j=n:=(by omega);subst ej;by_cases ei:i=j
    ·subst ei;exact M3 _
    ·have:=d i (j-1) ‹0› ‹0›
     omega
  refine hc _ _ _ (hp.lt ‹0›) (hp.lt ‹0›) ?_;by_cases q1:Rk r p n<Rk r p (n-1)
  ·rw[decide_eq_true q1];dsimp only;rw[if_pos rfl];by_cases hq0:q>0
   ·rw[if_pos hq0];refine qF hc f _ (n+1) 0 (hp.rev _ _) ‹0› ‹0› (step _ (Dx ‹0› hq he) ‹0›) ‹0› (λi a b=>by rw[show i=n+1-1 by omega]) λp' m q' a b c=>h p' m q' a ‹0› ‹0›
   ·rw[if_neg hq0];refine qF hc f _ (n+1) 0 hp ‹0› ‹0› (step _ (λ_=>rfl) ‹0›) ‹0› (λi a b=>by rw[show i=n+1-1 by omega]) λp' m q' a b c=>h p' m q' a ‹0› ‹0›
  ·rw[decide_eq_false q1];dsimp only;rw[if_neg M9];refine hc _ _ _ (hp.lt ‹0›) (hp.lt ‹0›) ?_;by_cases q2:Rk r p (n-1)<Rk r p n
   ·rw[decide_eq_true q2];dsimp only;rw[if_pos rfl];exact h p n q hp (M3 _) ‹0› d hq he
   ·rw[decide_eq_false q2];dsimp only;rw[if_neg M9];refine qF hc f _ (n+1) (q+1) hp ‹0› ‹0› (step _ (λ_=>rfl) ‹0›) ‹0› (λi a b=>?_) λp' m q' a b c=>h p' m q' a ‹0› ‹0›;rw[show n+1-1=n by omega];by_cases ei:i=n
    ·subst ei;rfl
    ·have:=he i ‹0› ‹0›
     omega
theorem vX(hc:lN cmp r N s){p:Array Nat}(hp:PM N p){n:Nat}(h1:1<=n)(hn:n<=N)(d:Dn r p n){G:Nat×Array Nat->QU->Prop}(h:∀m p',PM N p'->1<=m->m<=N->Up r p' m->G (m,p') s):(kas_tail3 n N p).kasWp cmp G s:=by
 unfold kas_tail3;rw[KasT.kasWp_bind];have hs:=hp.size;refine yw hc (hp.rev 0 n) _ _ h1 ‹0› (λi j hij hj=>?_) λm a b u _=>h m _ (hp.rev 0 n) ‹0› ‹0› u;rw[vK ‹0›,vK ‹0›,if_pos ‹0›,if_pos ‹0›];exact d _ _ ‹0› ‹0›
theorem qj(hc:lN cmp r N s){p:Array Nat}(hp:PM N p){n:Nat}(hn:n+1<=N)(d:Dn r p (n+1)){G:Nat×Array Nat->QU->Prop}(h:∀m p',PM N p'->1<=m->m<=N->Up r p' m->G (m,p') s):(kas_descPart n N p).kasWp cmp G s:=by
 unfold kas_descPart;rw[KasT.kasWp_bind];refine qF hc _ _ _ _ hp ‹0› ‹0› d ‹0› (λi a b=>by rw[show i=n+1-1 by omega]) λp' m q' hp' a b d' hq he=>?_;have hs:=hp'.size;dsimp only;by_cases hq0:q'>0
 ·rw[if_pos hq0];refine vX hc (hp'.rev _ _) ‹0› ‹0› (λi j hij hj=>?_) h;rw[Dx ‹0› hq he,Dx ‹0› hq he];exact d' i j hij hj
 ·rw[if_neg hq0];exact vX hc hp' ‹0› ‹0› d' h
theorem CL(hc:lN cmp r N s)(h1:1<=N){p:Array Nat}(hp:PM N p){G:Nat×Array Nat->QU->Prop}(h:∀m p',PM N p'->1<=m->m<=N->Up r p' m->G (m,p') s):(kas_count N p).kasWp cmp G s:=by
 unfold kas_count;rw[KasT.kasWp_bind];have hs:=hp.size;refine yw hc hp _ _ (M3 _) ‹0› (λi j hij hj=>by rw[show i=j by omega];exact M3 _) λn a b u hor=>?_;by_cases hn:n=N
 ·rw[if_pos (by simpa using hn)];exact h n p hp a ‹0› u
 ·rw[if_neg (by simpa using hn)];have hlt:Rk r p n<Rk r p (n-1):=by
   rcases hor with z|z
   ·omega
   ·exact z
  by_cases hg:n>1
  ·rw[if_pos hg];refine hc _ _ _ (hp.lt ‹0›) (hp.lt ‹0›) ?_;by_cases q:Rk r p 0<Rk r p (n-1)
   ·rw[decide_eq_true q];dsimp only;rw[if_pos rfl];exact h n p hp a ‹0› u
   ·rw[decide_eq_false q];dsimp only;rw[if_neg M9];have hall:∀k,k<n->Rk r p k=Rk r p (n-1):=λk hk=>by
     have a1:=u 0 k ‹0› hk;have a2:=u k (n-1) ‹0› ‹0›;omega
    have hr:∀k,Rk r (kas_rev p 0 n) k=Rk r p k:=λk=>by
     rw[vK ‹0›];split
     ·rename_i z;rw[hall _ ‹0›,hall k z.2]
     ·rfl
    refine qj hc (hp.rev _ _) ‹0› (λi j hij hj=>?_) h;rw[hr,hr];by_cases hjn:j<n
    ·rw[hall i ‹0›,hall j hjn];exact M3 _
    ·have ej:j=n:=(by omega);subst ej;by_cases ei:i=j
     ·subst ei;exact M3 _
     ·rw[hall i ‹0›];omega
  ·rw[if_neg hg];have en:n=1:=(by omega);subst en;refine qj hc hp ‹0› (λi j hij hj=>?_) h;by_cases ei:i=j
   ·subst ei;exact M3 _
   ·have e0:i=0:=(by omega);have e1:j=1:=(by omega);subst e0 e1;exact MT hlt
theorem sB(hc:lN cmp r N s){p:Array Nat}(hp:PM N p){k:Nat}(hk:k<N)(u:Up r p k){G:Nat->QU->Prop}(h:∀l,l<=k->(∀i,i<l->Rk r p i<=Rk r p k)->(∀i,l<=i->i<k->Rk r p k<Rk r p i)->G l s):
  ∀(f l t:Nat),t-l<=f->l<=t->t<=k->(∀i,i<l->Rk r p i<=Rk r p k)->(∀i,t<=i->i<k->Rk r p k<Rk r p i)->(kas_place p k f l t).kasWp cmp G s
 |0,l,t,a,b,c,d,e=>h l ‹0› d λi x y=>e i ‹0› y
 |f+1,l,t,a,b,c,d,e=>by
  unfold kas_place;by_cases hl:l>=t
  ·rw[if_pos hl];exact h l ‹0› d λi x y=>e i ‹0› y
  ·rw[if_neg hl];refine hc _ _ _ (hp.lt hk) (hp.lt ‹0›) ?_;by_cases q:Rk r p k<Rk r p ((l+t)/2)
   ·rw[decide_eq_true q];dsimp only;rw[if_pos rfl];refine sB hc hp hk u h f l ((l+t)/2) ‹0› ‹0› ‹0› d λi x y=>?_
    have:=u ((l+t)/2) i x y
    omega
   ·rw[decide_eq_false q];dsimp only;rw[if_neg M9];refine sB hc hp hk u h f ((l+t)/2+1) t ‹0› ‹0› ‹0› (λi x=>?_) e
    have:=u i ((l+t)/2) ‹0› ‹0›
    omega
theorem Dy(hc:lN cmp r N s){G:Array Nat->QU->Prop}(h:∀p,PM N p->Up r p N->G p s):∀(f:Nat)(p:Array Nat)(k:Nat),PM N p->k+f=N->Up r p k->(kas_bin f p k).kasWp cmp G s
 |0,p,k,hp,e,u=>h p hp (by rw[<-e];exact u)
 |f+1,p,k,hp,e,u=>by
  unfold kas_bin;rw[KasT.kasWp_bind];have hs:=hp.size;refine sB hc hp ‹0› u (λl hl d e'=>?_) k 0 k ‹0› (Nc _) (M3 _) (λi x=>by omega) λi x y=>by omega
  refine Dy hc h f _ (k+1) ((bubble_perm p k _).trans hp) ‹0› λi j hij hj=>?_;rw[De ‹0› ‹0›,De ‹0› ‹0›,show k-(k-l)=l by omega];have U:=u;by_cases i1:i=l
  ·rw[if_pos i1];by_cases j1:j=l
   ·rw[if_pos j1];exact M3 _
   ·rw[if_neg j1,if_pos ‹0›];exact MT (e' (j-1) ‹0› ‹0›)
  ·rw[if_neg i1];by_cases i2:l<i/\i<=k
   ·rw[if_pos i2,if_neg ‹0›,if_pos ‹0›];exact U _ _ ‹0› ‹0›
   ·rw[if_neg i2];by_cases j1:j=l
    ·rw[if_pos j1];exact d i ‹0›
    ·rw[if_neg j1];by_cases j2:l<j/\j<=k
     ·rw[if_pos j2];exact U _ _ ‹0› ‹0›
     ·rw[if_neg j2];exact U _ _ hij ‹0›
theorem y9(hc:lN cmp r N s)(h2:1<=N){G:Array Nat->QU->Prop}(h:∀p,PM N p->Up r p N->G p s):(kas_sort N).kasWp cmp G s:=by
 unfold kas_sort;rw[KasT.kasWp_bind];refine CL hc h2 (Array.Perm.refl _) λm p' hp a b u=>?_;dsimp only;by_cases hm:m<N
 ·rw[if_pos hm,show max m 1=m by omega];exact Dy hc h _ p' m hp ‹0› u
 ·rw[if_neg hm];exact h p' hp (by rw[show N=m by omega];exact u)
end
section
variable{prog:QK}{w:QJ}{A:QT}{E:QI->QU->Prop}{s:QU}
theorem sX{a:QL}{vs:List QI}{n:Nat}{P:PySem.Fin->QU->Prop}{κ:R4}{r:Nat->Nat}(ho:s.heap.get? a=some (seqObj "list" vs.toArray n))(h64:vs.length<64)
  (hk:2<=vs.length->∀h':QN,(∀b o,b≠a->s.heap.get? b=some o->h'.get? b=some o)->∀(Q:R4->QU->Prop),Q κ {s with heap:=h'}->QW (model prog w) A (keyKind' vs.toArray) Q E {s with heap:=h'})
  (hr:2<=vs.length->∀h':QN,(∀b o,b≠a->s.heap.get? b=some o->h'.get? b=some o)->lN (R5 prog w A κ vs) r vs.length {s with heap:=h'})
  (h:∀p:Array Nat,PM vs.length p->Up r p vs.length->P (.done (.ret .none)) {s with heap:=sortedHeap s.heap a vs (List.toArray (p.toList.map λi=>vs.getD i Value.none))}):
  QW (model prog w) A (Builtin.«list.sort» ⟨[.ref a],[]⟩) P E s:=by
 rw[list_sort_plain];have ha:a<s.heap.objs.size:=Qh ho;refine Q5 (listItems_at ho rfl ?_);refine Q5 (R6 ho rfl ?_ (by rw[M8,Rf];omega) (Nc _));obtain⟨e1,ho1⟩:∃e1,(s.heap.update a (Obj.mapSeq λ_=>(#[]:Array QI))).get? a=some (seqObj "list" #[] e1):=⟨_,R7 ho (λ_=>#[])⟩
 refine Q5 (R8 ho1 rfl ?_);refine Q5 (RY ?_ (by show vs.length<=_;rw[Rf];omega));refine Q5 (R9 ?_ (Nc _));refine Ry ?_;have ho6:(((s.heap.update a (Obj.mapSeq λ_=>(#[]:Array QI))).push (seqObj "tuple" vs.toArray 0)).push (seqObj "list" #[] 0)).get? a=some (seqObj "list" #[] e1):=by
  rw[Qo _ _ _ (by rw[size_push',Qp];exact MR (NR ha)),Qo _ _ _ (by rw[Qp];exact MR ha)];exact ho1
 have kept:∀b o,b≠a->s.heap.get? b=some o->(((s.heap.update a (Obj.mapSeq λ_=>(#[]:Array QI))).push (seqObj "tuple" vs.toArray 0)).push (seqObj "list" #[] 0)).get? b=some o:=λb o hb e=>
  Qk _ (Qk _ (by rw[Qq _ _ _ _ hb];exact e))
 show QW (model prog w) A _ P E {s with heap:=((s.heap.update a (Obj.mapSeq λ_=>(#[]:Array QI))).push (seqObj "tuple" vs.toArray 0)).push (seqObj "list" #[] 0)};dsimp only;have hsz:vs.toArray.size=vs.length:=by simp
 by_cases h2:vs.toArray.size<2
 ·rw[if_pos h2,if_pos h2];refine Q5 (Q4 ?_);rw[StateT.run_pure];refine Q5 (Q4 ?_);dsimp only;refine Q5 (R8 ho6 rfl ?_);have hout:(arrOf (SortSt.mk' general' (vs.toArray.zip vs.toArray) #[] 7 none)).map (·.2)=List.toArray ((List.toArray (List.range vs.length)).toList.map λi=>vs.getD i Value.none):=by
   refine kat_snds rfl ?_;show vs.toArray.zip vs.toArray=_;have e:=kas_range (vs.toArray.zip vs.toArray);rw[show(vs.toArray.zip vs.toArray).size=vs.length by simp]at e;exact e.symm
  rw[hout];refine Q5 (R6 ho6 rfl ?_ (Nc _) (by rw[M8,Nq,Rf];simp;omega));simp only[bne_self_eq_false,NQ,if_false];refine Q4 (h _ (Array.Perm.refl _) λi j hij hj=>?_)
  have:i=j:=by omega
  subst this;exact M3 _
 ·rw[if_neg h2,if_neg h2];have h2':2<=vs.length:=by omega
  refine Q5 (hk h2' _ kept _ ?_);refine Q5 (Q0 (kat_run (Q:=λst' s'=>∃p:Array Nat,arrOf st'=p.map (kas_item (vs.toArray.zip vs.toArray))/\failedOf st'=none/\PM vs.length p/\Up r p vs.length/\s'={s with heap:=((s.heap.update a (Obj.mapSeq λ_=>(#[]:Array QI))).push (seqObj "tuple" vs.toArray 0)).push (seqObj "list" #[] 0)})
   (G:=λp s'=>PM vs.length p/\Up r p vs.length/\s'={s with heap:=((s.heap.update a (Obj.mapSeq λ_=>(#[]:Array QI))).push (seqObj "tuple" vs.toArray 0)).push (seqObj "list" #[] 0)})
   rfl h2' h64 (λp' st' s' a1 a2 a3 a4=>⟨p',a2,a3,a4.1,a4.2.1,a4.2.2⟩) (y9 (hr h2' _ kept) ‹0› λp hp hu=>⟨hp,hu,rfl⟩)) ?_ λ_ _ e=>e)
  rintro⟨⟨⟩,st'⟩ s' ⟨p,har,hf,hp,hu,rfl⟩;dsimp only;refine Q5 (R8 ho6 rfl ?_);have hout:=kat_snds rfl har;rw[hout];refine Q5 (R6 ho6 rfl ?_ (Nc _) (by rw[M8,Nq,Array.length_toList,hp.size,Rf];omega));rw[hf];simp only[bne_self_eq_false,NQ,if_false];exact Q4 (h p hp hu)
theorem qP{src:QI}{vs:List QI}{Q:QI->QU->Prop}{κ:R4}{r:Nat->Nat}(h64:vs.length<64)
  (hcol:∀(Q':List QI->QU->Prop),(∀h' tk,(∀b o,s.heap.get? b=some o->h'.get? b=some o)->Q' vs {s with heap:=h',toks:=tk})->QW (model prog w) A.in1 (collect src) Q' E s)
  (hk:2<=vs.length->∀(h':QN)(tk:Nat),(∀b o,s.heap.get? b=some o->h'.get? b=some o)->∀(Q:R4->QU->Prop),Q κ {s with heap:=h',toks:=tk}->QW (model prog w) A.in1.in1 (keyKind' vs.toArray) Q E {s with heap:=h',toks:=tk})
  (hr:2<=vs.length->∀(h':QN)(tk:Nat),(∀b o,s.heap.get? b=some o->h'.get? b=some o)->lN (R5 prog w A.in1.in1 κ vs) r vs.length {s with heap:=h',toks:=tk})
  (h:∀(p:Array Nat)(h1 h':QN)(l:QL)(e tk:Nat),PM vs.length p->Up r p vs.length->(∀b o,s.heap.get? b=some o->h1.get? b=some o)->(∀b o,h1.get? b=some o->h'.get? b=some o)->h1.objs.size<=l->h'.get? l=some (seqObj "list" (List.toArray (p.toList.map λi=>vs.getD i Value.none)) e)->Q (.ref l) {s with heap:=h',toks:=tk}):
  QW (model prog w) A (call (.builtin "sorted") [src]) Q E s:=by
 refine Calls.call_function_entry kind_sorted plain_sorted entry_sorted (args_sorted1 _) ?_;unfold Builtin.«sorted»;refine Q5 (m:=checkCount "sorted" 1 1 _) (Q4 ?_);refine Q5 (hcol _ λh1 tk k1=>?_);refine Q5 (R9 ?_ (by rw[Rf];omega));have hoL:(h1.push (seqObj "list" vs.toArray 0)).get? h1.objs.size=some (seqObj "list" vs.toArray 0):=Ql _ rfl;have k2:∀b o,s.heap.get? b=some o->(h1.push (seqObj "list" vs.toArray 0)).get? b=some o:=λb o e=>Qk _ (k1 b o e);have ne:∀b o,s.heap.get? b=some o->b≠h1.objs.size:=λb o e=>MR (Qh (k1 b o e));refine Q5 (Ry (RA slot_list_sort ⟨_,hoL,rfl⟩ entry_list_sort (sX (s:={s with heap:=h1.push (seqObj "list" vs.toArray 0),toks:=tk}) (r:=r) (κ:=κ) hoL h64
  (λh2 h' k=>hk h2 h' tk λb o e=>k b o (ne b o e) (k2 b o e)) (λh2 h' k=>hr h2 h' tk λb o e=>k b o (ne b o e) (k2 b o e)) λp hp hu=>⟨_,rfl,?_⟩) (args_list_sort _)))
 refine Q4 ⟨_,rfl,?_⟩;obtain⟨e,he⟩:=sortedHeap_at (vs:=vs) (out:=List.toArray (p.toList.map λi=>vs.getD i Value.none)) hoL;exact h p h1 _ h1.objs.size e tk hp hu k1 (λb o q=>by rw[sortedHeap_old (MR (Qh q)) (by rw[size_push'];exact NR (Qh q))];exact Qk _ q) (M3 _) he
end
def eF:D->List D
 |.tup ks=>ks
 |_=>[]
def oneOf(d:D):List D:=[d]
def Gj(xs:List D):Prop:=xs.length<64/\∃σ:List Bool,σ≠[]/\(∀x∈xs,∃k,x=.tup k/\Sh σ k)/\xs.Pairwise λx y=>eF x≠eF y
def Ju(xs:List D):Prop:=xs.length<64/\∃b:Bool,(∀x∈xs,Sh [b] [x])/\xs.Pairwise λx y=>oneOf x≠oneOf y
open Classical in
noncomputable def qi(xs:List D):Option D:=if Gj xs then some (.lst (iW eF xs))else if Ju xs then some (.lst (iW oneOf xs))else none
noncomputable def e9:List D->Option D
 |[.lst xs]=>qi xs
 |[.tup xs]=>qi xs
 |_=>none
theorem ji{prog:QK}{w:QJ}{A:QT}{s:QU}{Q:Bool->QU->Prop}{fin:Bool}(hf:fin=false):∀{σ:List Bool}{ns ms:List D}{xs ys:List QI}{i:Nat},Sh σ ns->Sh σ ms->gq xs ns->gq ys ms->Q (kLt ns ms) s->KatLex prog w A true fin Q (xs.zip ys) i s
 |_,_,_,_,_,i,.nil,.nil,.nil,.nil,h=>by
  subst hf;exact kat_nil (by simpa [kLt,eK]using h)
 |_,_,_,_,_,i,.int a h1,.int c h2,.int _ t f1,.int _ u f2,h=>by
  rw[Ov];obtain⟨e,he,hiff⟩:=Fm A s a t c u;refine kat_cons (he prog w _ _ ?_);cases e with
  |true=>
   have ac:=hiff.mp rfl;refine kat_yes (ji hf h1 h2 f1 f2 ?_);unfold kLt at h ⊢;rw[qQ,if_pos ac]at h;exact h
  |false=>
   have ac:¬a=c:=λq=>absurd (hiff.mpr q) M9;have h':Q (decide (a<c)) s:=by
    unfold kLt at h;rw[qQ,if_neg ac]at h;cases hd:decide (a<c)<;>rw[hd]at h<;>exact h
   refine kat_no ?_;cases hi:(i==0)with
   |true=>exact oneLt_int h'
   |false=>exact kat_one _ _ (PySem.P.lt_int (show P9 Q (.bool _) s from h'))
 |_,_,_,_,_,i,.str a h1,.str c h2,.str _ t f1,.str _ u f2,h=>by
  rw[Ov];obtain⟨e,he,hiff⟩:=FP A s a t c u;refine kat_cons (he prog w _ _ ?_);cases e with
  |true=>
   have ac:=hiff.mp rfl;refine kat_yes (ji hf h1 h2 f1 f2 ?_);unfold kLt at h ⊢;rw[sA,if_pos ac]at h;exact h
  |false=>
   have ac:¬a=c:=λq=>absurd (hiff.mpr q) M9;have h':Q (decide (a.cps.toList<c.cps.toList)) s:=by
    unfold kLt at h;rw[sA,if_neg ac]at h;cases hd:decide (a.cps.toList<c.cps.toList)<;>rw[hd]at h<;>exact h
   refine kat_no ?_;cases hi:(i==0)with
   |true=>exact oneLt_str h'
   |false=>exact kat_one _ _ (PySem.P.lt_str (show P9 Q (.bool _) s from h'))
theorem nO{h:QN}{PT:QI->Prop}:∀{its:List QI},(∀v∈its,∃a o xs n f,v=.ref a/\h.get? a=some o/\o.cls=.type "tuple"/\o.data=.seq xs n/\xs[0]?=some f/\PT f)->∃fs,KatTups h its fs/\fs.length=its.length/\∀f∈fs,PT f
 |[],_=>⟨[],.nil,rfl,λ_ h=>nomatch h⟩
 |v::its,hh=>by
  obtain⟨a,o,xs,n,f,rfl,h1,h2,h3,h4,h5⟩:=hh v MV;obtain⟨fs,k1,k2,k3⟩:=nO (its:=its) λu hu=>hh u (MX _ hu);refine⟨f::fs,.cons h1 h2 h3 h4 k1,by rw[NE,NE,k2],λg hg=>?_⟩;rcases List.mem_cons.mp hg with rfl|z
  ·exact h5
  ·exact k3 g z
theorem gq.first{σ:List Bool}{b:Bool}{xs:List QI}{ns:List D}(f:gq xs ns)(h:Sh (b::σ) ns):∃v,xs[0]?=some v/\typeOf v=pure (.type (if b then"int"else"str")):=by
 cases f with
 |nil=>cases h
 |int i t f=>cases h;exact⟨_,rfl,rfl⟩
 |str i t f=>cases h;exact⟨_,rfl,rfl⟩
theorem qo{key:D->List D}{σ:List Bool}{ds:List D}(h:∀x∈ds,Sh σ (key x))(pw:ds.Pairwise λx y=>key x≠key y){p:Array Nat}(hp:PM ds.length p)(hu:Up (rank (ds.map key)) p ds.length):p.toList.map (λi=>ds.getD i .non)=iW key ds:=by
 have hr:p.toList.Perm (List.range ds.length):=by
  have:=Array.perm_iff_toList_perm.mp hp
  simpa using this
 have hmap:(List.range ds.length).map (λi=>ds.getD i .non)=ds:=by
  apply List.ext_getElem
  ·simp
  ·intro i h1 h2;simp at h1;simp[h1]
 have hperm:(p.toList.map λi=>ds.getD i .non).Perm ds:=by
  have:=hr.map (λi=>ds.getD i .non)
  rwa [hmap]at this
 have hn:p.toList.Nodup:=hr.nodup_iff.mpr List.nodup_range;refine(oB h pw ?_ hperm).symm;have hl:p.toList.length=ds.length:=by rw[hr.length_eq,N7]
 have kd:∀i,i<ds.length->(ds.map key).getD i []=key (ds.getD i .non):=λi hi=>by simp[hi]
 have hsh:∀k∈ds.map key,Sh σ k:=λk hk=>by
  obtain⟨x,hx,rfl⟩:=List.mem_map.mp hk;exact h x hx
 unfold xr;rw[OI,List.pairwise_iff_getElem];intro i j hi hj hij;have hi':p.toList[i]<ds.length:=by simpa using hr.mem_iff.mp (OH hi)
 have hj':p.toList[j]<ds.length:=by simpa using hr.mem_iff.mp (OH hj)
 have ne:p.toList[i]≠p.toList[j]:=List.pairwise_iff_getElem.mp hn i j hi hj hij;have up:=hu i j ‹0› ‹0›;have gi:p.getD i 0=p.toList[i]:=by
  have:i<p.size:=by rw[<-Array.length_toList];exact hi
  simp[Array.getD,this]
 have gj:p.getD j 0=p.toList[j]:=by
  have:j<p.size:=by rw[<-Array.length_toList];exact hj
  simp[Array.getD,this]
 unfold Rk at up;rw[gi,gj]at up;have rl:=qB hsh (i:=p.toList[j]) (j:=p.toList[i]) (by rw[Nq];exact hj') (by rw[Nq];exact hi');rw[kd _ hj',kd _ hi',decide_eq_false ‹0›]at rl;have ei:ds.getD p.toList[i] .non=ds[p.toList[i]]:=by rw[OJ,NY hi'];rfl
 have ej:ds.getD p.toList[j] .non=ds[p.toList[j]]:=by rw[OJ,NY hj'];rfl
 have s1:=h _ (show ds.getD p.toList[i] .non∈ds by rw[ei];exact OH hi');have s2:=h _ (show ds.getD p.toList[j] .non∈ds by rw[ej];exact OH hj');rcases j9 s1 s2 with⟨z,_⟩|z|⟨z,_⟩
 ·exact z
 ·exfalso;have pw':=List.pairwise_iff_getElem.mp pw;rw[ei,ej]at z;rcases Nat.lt_or_gt_of_ne ne with q|q
  ·exact pw' _ _ hi' hj' q z
  ·exact pw' _ _ hj' hi' q z.symm
 ·rw[EH.mpr z]at rl;cases rl
theorem pB{vs:List V}{us:List QI}(r:Vals vs us):∀l:List Nat,(∀i∈l,i<vs.length)->Vals (l.map λi=>vs.getD i .non) (l.map λi=>us.getD i Value.none)
 |[],_=>.nil
 |i::l,h=>by
  have hi:=h i MV;obtain⟨u,e,q⟩:=r.get (i:=i) (x:=vs[i]) (by simp[hi]);refine .cons ?_ (pB r l λj hj=>h j (MX _ hj));have e1:vs.getD i .non=vs[i]:=by simp[hi]
  have e2:us.getD i Value.none=u:=by simp[OJ,e]
  show L2.RelV (vs.getD i .non) (us.getD i Value.none);rw[e1,e2];exact q
theorem pZ{K:PD}{H:Hp}{ds:List D}{vs:List V}(g:bj K H ds vs):∀l:List Nat,(∀i∈l,i<ds.length)->bj K H (l.map λi=>ds.getD i .non) (l.map λi=>vs.getD i .non)
 |[],_=>cY.mpr rfl
 |i::l,h=>by
  have hi:=h i MV;obtain⟨v,e,q⟩:=g.get (i:=i) (d:=ds[i]) (by simp[hi]);refine bM.mpr ⟨_,_,rfl,?_,pZ g l λj hj=>h j (MX _ hj)⟩;have e1:ds.getD i .non=ds[i]:=by simp[hi]
  have e2:vs.getD i .non=v:=by simp[OJ,e]
  show cQ K H (ds.getD i .non) (vs.getD i .non);rw[e1,e2];exact q
section
variable{X:Cx}{pins:List (QL×Obj)}{s:QU}{σ:L2.St}{H:Hp}{O:List QL}
theorem ut{u:QI}{ds:List D}{vs:List V}{its:List QI}{d:D}{Q:VK}(I:Inv X pins σ H s)(hO:dW H O)(dn:bj X.K (hid H O) ds vs)(rv:Vals vs its)(hs:qi ds=some d)
  (hcol:∀(Q':List QI->QU->Prop),(∀h' tk,(∀b o,s.heap.get? b=some o->h'.get? b=some o)->Q' its {s with heap:=h',toks:=tk})->QW (model X.prog X.w) X.A.in1 (collect u) Q' X.xe s)
  (q:∀v H',bE H H'->cQ X.K (hid H' O) d v->Q v H'):QW (model X.prog X.w) X.A (call (.builtin "sorted") [u]) (EP X pins σ Q) X.xe s:=by
 have l1:=dn.length;have l2:=rv.length;have fin:∀(key:D->List D)(σ':List Bool),(∀x∈ds,Sh σ' (key x))->ds.Pairwise (λx y=>key x≠key y)->ds.length<64->d=.lst (iW key ds)->∀(p:Array Nat)(h1 h':QN)(l:QL)(e tk:Nat),PM its.length p->Up (rank (ds.map key)) p its.length->(∀b o,s.heap.get? b=some o->h1.get? b=some o)->(∀b o,h1.get? b=some o->h'.get? b=some o)->h1.objs.size<=l->
   h'.get? l=some (seqObj "list" (List.toArray (p.toList.map λi=>its.getD i Value.none)) e)->EP X pins σ Q (.ref l) {s with heap:=h',toks:=tk}:=by
  intro key σ' hsh pw h64 ed p h1 h' l e tk hp hu k1 k2 hl he;have el:its.length=ds.length:=by omega
  rw[el]at hp hu;have ps:=qo hsh pw hp hu;have hr:p.toList.Perm (List.range ds.length):=by
   have:=Array.perm_iff_toList_perm.mp hp
   simpa using this
  have hlt:∀i∈p.toList,i<ds.length:=λi hi=>by simpa using hr.mem_iff.mp hi
  have I1:Inv X pins σ H {s with heap:=h1,toks:=tk}:=I.kept k1;have hn:H l=none:=I1.hok.fresh hl;have rv':=pB rv p.toList λi hi=>by have:=hlt i hi;omega
  have dn':=pZ dn p.toList hlt;have hlen:p.toList.length=ds.length:=by rw[hr.length_eq,N7]
  refine⟨.ref l,_,Inv.laid (s:={s with heap:=h1,toks:=tk}) (t':=tk) I1 k2 hl (show cM X.prog X.w _ h' _ (.lst (p.toList.map λi=>vs.getD i .non))from⟨by rw[Nq,hlen,Rf];omega,_,e,rv',he⟩),rfl,?_⟩;refine q _ _ (cf hn _) ?_;rw[ed,<-ps];exact dq hO hn dn'
 unfold qi at hs;split at hs
 ·rename_i h;cases hs;obtain⟨h64,σ',hσ,hsh,pw⟩:=h;obtain⟨b,σ1,rfl⟩:∃b σ1,σ'=b::σ1:=by
   cases σ' with
   |nil=>exact absurd rfl hσ
   |cons b σ1=>exact⟨b,σ1,rfl⟩
  have hsh':∀x∈ds,Sh (b::σ1) (eF x):=λx hx=>by
   obtain⟨k,rfl,hk⟩:=hsh x hx;exact hk
  have at':∀i (hi:i<ds.length),∃a o xs n,its[i]?=some (.ref a)/\s.heap.get? a=some o/\o.cls=.type "tuple"/\o.data=.seq xs n/\gq xs.toList (eF ds[i]):=λi hi=>by
   obtain⟨v,e1,dv⟩:=dn.get (i:=i) (d:=ds[i]) (by simp[hi]);obtain⟨w,e2,rw'⟩:=rv.get e1;obtain⟨k,ek,hk⟩:=hsh _ (OH hi);rw[ek]at dv ⊢;obtain⟨a,ws,rfl,ha,dk⟩:=cG.mp dv;cases rw';obtain⟨it2,r2,⟨o,ho,hc,n,hd⟩,_⟩:=I.tuple (cq (aK H O) ha);exact⟨a,o,_,n,e2,ho,hc,hd,by simpa [eF]using jS (mM hk) dk r2⟩
  refine qP (κ:=tuples' true) (r:=rank (ds.map eF)) ‹0› hcol (λh2 h' tk kp Q' hQ=>?_) (λh2 h' tk kp i j C hi hj hC=>?_) (fin eF _ hsh' pw h64 rfl)
  ·obtain⟨fs,t1,t2,t3⟩:=nO (h:=h') (PT:=λf=>typeOf f=pure (.type (if b then"int"else"str"))) (its:=its) λv hv=>by
    obtain⟨i,hi,rfl⟩:=N3 hv;obtain⟨a,o,xs,n,e1,ho,hc,hd,ff⟩:=at' i ‹0›;obtain⟨f,ef,tf⟩:=ff.first (hsh' _ (OH _));refine⟨a,o,xs,n,f,?_,kp _ _ ho,hc,hd,by simpa using ef,tf⟩
    have:=NY hi
    rw[e1]at this;exact(Option.some.inj this).symm
   refine kat_kind (T:=.type (if b then"int"else"str")) t1 ‹0› (λf hf=>Looks.of_pure (t3 f hf)) (by cases b<;>rfl) ?_
   have:(Value.type (if b then"int"else"str") !=Value.type "tuple")=true:=(by cases b<;>rfl);rw[this];exact hQ
  ·obtain⟨a,o,xs,n,e1,ho,hc,hd,ff⟩:=at' i ‹0›;obtain⟨a2,o2,xs2,n2,e2,ho2,hc2,hd2,ff2⟩:=at' j ‹0›;unfold R5;have g1:its.getD i Value.none=.ref a:=(by simp[OJ,e1]);have g2:its.getD j Value.none=.ref a2:=(by simp[OJ,e2]);rw[g1,g2];have hi':i<ds.length:=(by omega);have hj':j<ds.length:=(by omega);have sh1:=hsh' _ (OH hi');have sh2:=hsh' _ (OH hj');have rl:=qB (ks:=ds.map eF) (σ:=b::σ1) (λk hk=>by obtain⟨x,hx,rfl⟩:=List.mem_map.mp hk;exact hsh' x hx) (i:=i) (j:=j) (by rw[Nq];exact hi') (by rw[Nq];exact hj');have k1:(ds.map eF).getD i []=eF ds[i]:=(by simp[hi']);have k2:(ds.map eF).getD j []=eF ds[j]:=(by simp[hj']);rw[k1,k2]at rl;rw[rl]at hC;refine kat_lt (kp _ _ ho) hd (kp _ _ ho2) hd2 (ji ?_ sh1 sh2 ff ff2 hC);have z1:xs.size=(eF ds[i]).length:=(by have:=ff.length;simpa using this);have z2:xs2.size=(eF ds[j]).length:=(by have:=ff2.length;simpa using this);have z3:(eF ds[i]).length=(eF ds[j]).length:=(by rw[Sh.length sh1,Sh.length sh2]);exact decide_eq_false ‹0›
 ·split at hs
  ·rename_i _ h;cases hs;obtain⟨h64,b,hsh,pw⟩:=h;have at':∀i (hi:i<ds.length),(∃(n:Int)(t:Tok),b=true/\its[i]?=some (.int n t)/\ds[i]=.int n)\/∃(x:Str)(t:Tok),b=false/\its[i]?=some (.str x t)/\ds[i]=.str x:=λi hi=>by
    obtain⟨v,e1,dv⟩:=dn.get (i:=i) (d:=ds[i]) (by simp[hi]);obtain⟨w,e2,rw'⟩:=rv.get e1;have hk:=hsh _ (OH hi);generalize ds[i]=di at dv hk;cases hk with
    |int n _=>
     rw[fj]at dv;subst dv;obtain⟨t,rfl⟩:=rw';exact .inl ⟨n,t,rfl,e2,rfl⟩
    |str x _=>
     rw[fh]at dv;subst dv;obtain⟨t,rfl⟩:=rw';exact .inr ⟨x,t,rfl,e2,rfl⟩
   refine qP (κ:=oneType') (r:=rank (ds.map oneOf)) ‹0› hcol (λh2 h' tk kp Q' hQ=>?_) (λh2 h' tk kp i j C hi hj hC=>?_) (fin oneOf [b] hsh pw h64 rfl)
   ·refine kas_kind (T:=.type (if b then"int"else"str")) h2 (λv hv=>?_) (by cases b<;>rfl) (by cases b<;>rfl) hQ;obtain⟨i,hi,rfl⟩:=N3 hv;have hg:=NY hi;rcases at' i ‹0›with⟨n,t,rfl,e,_⟩|⟨x,t,rfl,e,_⟩
    ·rw[hg]at e;rw[Option.some.inj e];exact Looks.of_pure rfl
    ·rw[hg]at e;rw[Option.some.inj e];exact Looks.of_pure rfl
   ·have hi':i<ds.length:=(by omega);have hj':j<ds.length:=(by omega);unfold R5;have rl:=qB (ks:=ds.map oneOf) (σ:=[b]) (λk hk=>by obtain⟨x,hx,rfl⟩:=List.mem_map.mp hk;exact hsh x hx) (i:=i) (j:=j) (by rw[Nq];exact hi') (by rw[Nq];exact hj');have k1:(ds.map oneOf).getD i []=[ds[i]]:=(by simp[hi',oneOf]);have k2:(ds.map oneOf).getD j []=[ds[j]]:=(by simp[hj',oneOf]);rw[k1,k2]at rl;rw[rl]at hC;rcases at' i hi' with⟨n,t,hb,e1,q1⟩|⟨x,t,hb,e1,q1⟩
    ·rcases at' j hj' with⟨n2,t2,hb2,e2,q2⟩|⟨x2,t2,hb2,e2,q2⟩
     ·have g1:its.getD i Value.none=.int n t:=(by simp[OJ,e1]);have g2:its.getD j Value.none=.int n2 t2:=(by simp[OJ,e2]);rw[g1,g2,keyLt'_oneType];refine oneLt_int ?_;rw[q1,q2]at hC;unfold kLt at hC;rw[qQ]at hC;by_cases z:n=n2
      ·rw[if_pos z]at hC;rw[decide_eq_false ‹0›];exact hC
      ·rw[if_neg z]at hC;cases hd:decide (n<n2)<;>rw[hd]at hC<;>exact hC
     ·rw[hb]at hb2;cases hb2
    ·rcases at' j hj' with⟨n2,t2,hb2,e2,q2⟩|⟨x2,t2,hb2,e2,q2⟩
     ·rw[hb]at hb2;cases hb2
     ·have g1:its.getD i Value.none=.str x t:=(by simp[OJ,e1]);have g2:its.getD j Value.none=.str x2 t2:=(by simp[OJ,e2]);rw[g1,g2,keyLt'_oneType];refine oneLt_str ?_;rw[q1,q2]at hC;unfold kLt at hC;rw[sA]at hC;by_cases z:x=x2
      ·rw[if_pos z]at hC;rw[decide_eq_false (by rw[z];exact rW _)];exact hC
      ·rw[if_neg z]at hC;cases hd:decide (x.cps.toList<x2.cps.toList)<;>rw[hd]at hC<;>exact hC
  ·cases hs
theorem kn:dZ X (.builtin "sorted") (xP X.K e9):=by
 intro pins s σ H xs us Q I r ⟨O,ds,d,hO,hd,hg,q⟩;unfold e9 at hg;split at hg
 ·obtain⟨v,rfl,h1⟩:=hd.one;obtain⟨p,ws,rfl,g1,g2⟩:=cH.mp h1;obtain⟨u,rfl,ru⟩:=vals1 r;cases ru;obtain⟨its,rv,pl,hz⟩:=I.list ((aK H O).seq g1);have hlen:=rv.length;obtain⟨o,ho,hc,n,hd'⟩:=pl.isList;exact ut I hO g2 rv hg (λQ' hQ=>Sa p (.inl rfl) ho hc hd' (λh' k=>by simpa using hQ h' s.toks k) (by simp only[M8]<;>omega)) q
 ·obtain⟨v,rfl,h1⟩:=hd.one;obtain⟨p,ws,rfl,g1,g2⟩:=cG.mp h1;obtain⟨u,rfl,ru⟩:=vals1 r;cases ru;obtain⟨its,rv,⟨o,ho,hc,n,hd'⟩,hz⟩:=I.tuple (cq (aK H O) g1);have hlen:=rv.length;exact ut I hO g2 rv hg (λQ' hQ=>Sa p (.inr rfl) ho hc hd' (λh' k=>by simpa using hQ h' s.toks k) (by simp only[M8]<;>omega)) q
 ·cases hg
end
end TG
namespace TG
open PySem PySem.Spec L2
variable[bd]
section
variable{X:Cx}{tg:QX}
end
end TG
namespace TG
open PySem PySem.Spec L2
variable[bd]
end TG
namespace TG
open PySem PySem.Spec L2
variable[bd]
end TG
namespace TG
open PySem PySem.Spec L2
variable[bd]
def keyOf:D->Option Key
 |.int i=>some (.inl i)
 |.str x=>some (.inr x)
 |_=>none
def keysOf:List D->Option (List Key)
 |[]=>some []
 |d::r=>(keyOf d).bind λk=>(keysOf r).map (k::·)
def jq:D->Option (List Key)
 |.tup ds=>keysOf ds
 |_=>none
theorem sg{d:D}{k:Key}(h:keyOf d=some k):d=bN k:=by
 cases d with
 |int i=>cases h;rfl
 |str x=>cases h;rfl
 |_=>cases h
theorem mE:∀{ds:List D}{ks:List Key},keysOf ds=some ks->ds=ks.map bN
 |[],_,h=>by cases h;rfl
 |d::r,ks,h=>by
  unfold keysOf at h;cases e1:keyOf d with
  |none=>rw[e1]at h;cases h
  |some k=>
   rw[e1]at h;cases e2:keysOf r with
   |none=>rw[e2]at h;cases h
   |some ks'=>rw[e2]at h;cases h;rw[sg e1,mE e2];rfl
theorem ox{d:D}{k:List Key}(h:jq d=some k):d=.tup (k.map bN):=by
 cases d with
 |tup ds=>rw[mE (show keysOf ds=some k from h)]
 |_=>cases h
theorem cA:∀ks:List Key,keysOf (ks.map bN)=some ks
 |[]=>rfl
 |k::r=>by
  show(keyOf (bN k)).bind _=_;have e:keyOf (bN k)=some k:=by cases k<;>rfl
  rw[e];show(keysOf (r.map bN)).map (k::·)=_;rw[cA r];rfl
theorem qN{K:PD}{H:Hp}{k:Key}{v:V}(h:cQ K H (bN k) v):v=kV k:=by
 cases k with
 |inl i=>exact fj.mp h
 |inr x=>exact fh.mp h
theorem iN{K:PD}{H:Hp}:∀{ks:List Key}{vs:List V},bj K H (ks.map bN) vs->vs=ks.map kV
 |[],vs,h=>by rw[Nx,cY]at h;exact h
 |k::r,vs,h=>by
  rw[Ny,bM]at h;obtain⟨v,r',e1,h1,h2⟩:=h;rw[e1,qN h1,iN h2];rfl
section
variable{P:QK}{w:QJ}{H H':Hp}{h:QN}{a:QL}
theorem BW(x:cM P w H h a (.dK [])):cM P w H' h a (.dT []):=by
 obtain⟨z,hd,vs,rel,o,es,ep,h1,h2,h3,h4,h5,h6⟩:=x;have e:vs=[]:=by have:=rel.length;simpa using this.symm
 subst e;refine⟨Nc _,hd,[],.nil,o,es,ep,h1,h2,h3,?_,by simp⟩
 have:=h5.length
 simpa using this
theorem xj(x:cM P w H h a (.dT [])):cM P w H' h a (.dK []):=by
 obtain⟨z,hd,xs,rel,o,es,ep,h1,h2,h3,h4,h5⟩:=x;have e:xs=[]:=by have:=rel.length;simpa using this.symm
 subst e;have e2:es=#[]:=by simpa using h4
 subst e2;exact⟨Nc _,hd,[],.nil,o,#[],ep,h1,h2,h3,λe he=>by simp at he,.nil,by simp⟩
end
section
variable{X:Cx}{pins:List (QL×Obj)}{σ:St}{H:Hp}{s:QU}{a:QL}
theorem En(I:Inv X pins σ H s)(h1:H a=some (.dK [])):Inv X pins σ (upd H a (.dT [])) s:=by
 have hx:=I.hok a _ h1;have hq:∃q,s.heap.get? a=some q:=by obtain⟨_,_,_,_,o,_,_,e,_⟩:=id hx;exact⟨o,e⟩
 exact qJ (ob:=.dT []) (h':=s.heap) (t':=s.toks) I (by rw[h1];exact trivial) ⟨rfl,λ_ _=>rfl⟩ hq (BW hx)
theorem G7(I:Inv X pins σ H s)(h1:H a=some (.dT [])):Inv X pins σ (upd H a (.dK [])) s:=by
 have hx:=I.hok a _ h1;have hq:∃q,s.heap.get? a=some q:=by obtain⟨_,_,_,_,o,_,_,e,_⟩:=id hx;exact⟨o,e⟩
 exact qJ (ob:=.dK []) (h':=s.heap) (t':=s.toks) I (by rw[h1];exact trivial) ⟨rfl,λ_ _=>rfl⟩ hq (xj hx)
end
theorem xI{H:Hp}{a:QL}{o1 o2:HO}(h:H a=some o1):upd (upd H a o2) a o1=H:=by
 funext b;by_cases e:b=a
 ·subst e;rw[bb,h]
 ·rw[aQ e,aQ e]
def oW:List D->List D->Option (List (List Key×D))
 |[],[]=>some []
 |k::ks,d::ds=>(jq k).bind λk=>(oW ks ds).map ((k,d)::·)
 |_,_=>none
abbrev encK(al:List (List Key×D)):List D:=al.map λp=>.tup (p.1.map bN)
abbrev eT(al:List (List Key×D)):D:=.dct (encK al) (al.map (·.2))
theorem oN:∀{ks ds:List D}{al:List (List Key×D)},oW ks ds=some al->ks=encK al/\ds=al.map (·.2)
 |[],[],_,h=>by cases h;exact⟨rfl,rfl⟩
 |k::ks,d::ds,al,h=>by
  unfold oW at h;cases e1:jq k with
  |none=>rw[e1]at h;cases h
  |some k'=>
   rw[e1]at h;cases e2:oW ks ds with
   |none=>rw[e2]at h;cases h
   |some al'=>
    rw[e2]at h;cases h;obtain⟨h1,h2⟩:=oN e2;rw[ox e1,h1,h2];exact⟨rfl,rfl⟩
 |[],_::_,_,h=>by cases h
 |_::_,[],_,h=>by cases h
theorem om:∀al:List (List Key×D),oW (encK al) (al.map (·.2))=some al
 |[]=>rfl
 |p::r=>by
  show(jq (.tup (p.1.map bN))).bind _=_;have e:jq (.tup (p.1.map bN))=some p.1:=cA p.1;rw[e];show(oW (encK r) (r.map (·.2))).map ((p.1,p.2)::·)=_;rw[om r];rfl
theorem oR:∀{al:List (List Key×D)}{ks:List (List Key)},encK al=ks.map (λk=>.tup (k.map bN))->al.map (·.1)=ks
 |[],[],_=>rfl
 |p::r,k::ks,h=>by
  have h:D.tup (p.1.map bN)::encK r=D.tup (k.map bN)::ks.map (λk=>.tup (k.map bN)):=h;injection h with h1 h2;injection h1 with h1;have e:some p.1=some k:=by rw[<-cA p.1,h1,cA k]
  rw[Ny,Option.some.inj e,oR h2]
 |[],_::_,h=>by cases h
 |_::_,[],h=>by cases h
theorem Ky{K:PD}{H:Hp}{O:List QL}{a:QL}{al:List (List Key×D)}(h:eO K H O a (eT al)):
  (∃kvs:List (List Key×V),H a=some (.dT kvs)/\kvs.map (·.1)=al.map (·.1)/\bj K (hid H O) (al.map (·.2)) (kvs.map (·.2)))\/(H a=some (.dK [])/\al=[]):=by
 obtain⟨o,vs,h1,h2,h3⟩:=h;rcases h3 with⟨kvs,e,e1,e2⟩|⟨kvs,e,e1,e2⟩
 ·subst e;cases kvs with
  |nil=>
   refine .inr ⟨h1,?_⟩
   simpa using e1
  |cons p r=>
   cases al with
   |nil=>cases e1
   |cons q r'=>
    have e1:D.tup (q.1.map bN)::encK r'=bN p.1::r.map (λp=>bN p.1):=e1;injection e1 with e1 _;rcases p with⟨k,v⟩
    cases k<;>cases e1
 ·subst e;refine .inl ⟨kvs,h1,?_,by rw[<-e2];exact h2⟩;exact(oR (ks:=kvs.map (·.1)) (by rw[OL];exact e1)).symm
theorem v6{kvs:List (List Key×V)}{ks:List (List Key)}(e:kvs.map (·.1)=ks)(k:List Key):(kZ kvs k).isSome=ks.any λq=>decide (q=k):=by
 subst e
 induction kvs with
 |nil=>rfl
 |cons p r ih=>
  rw[Ny,NB,<-ih];by_cases e:p.1=k
  ·rw[lD e];simp[e]
  ·rw[lZ e];simp[e]
def nH(ks ds:List D)(k:D):Option D:=(oW ks ds).bind λal=>(jq k).bind λk=>some (.bl (al.any λp=>decide (p.1=k)))
def Ms(i:Nat)(f:FX):FX:=λρ=>(f ρ).bind λk=>match ρ[i]? with
 |some (some (.own (.dct ks ds)))=>rO (nH ks ds k)
 |_=>un
theorem qZ{ks ds:List D}{k d:D}(h:nH ks ds k=some d):∃al q,ks=encK al/\ds=al.map (·.2)/\k=.tup (q.map bN)/\d=.bl (al.any λp=>decide (p.1=q)):=by
 unfold nH at h;cases e1:oW ks ds with
 |none=>rw[e1]at h;cases h
 |some al=>
  rw[e1]at h;cases e2:jq k with
  |none=>rw[e2]at h;cases h
  |some q=>
   rw[e2]at h;cases h;obtain⟨h1,h2⟩:=oN e1;exact⟨al,q,h1,h2,ox e2,rfl⟩
def iA(al:List (List Key×D))(k:List Key)(v:D):List (List Key×D):=if(al.any λp=>decide (p.1=k))=true then al.map (λp=>if p.1=k then(p.1,v)else p)else al++[(k,v)]
def uC(ks ds:List D)(k v:D):Option (List (List Key×D)):=(oW ks ds).bind λal=>(jq k).bind λk=>if small al.length then some (iA al k v)else none
def tX(i:Nat)(fk fv:FX):cx:=λk ρ=>match ρ[i]? with
 |some (some (.own (.dct ks ds)))=>sL ((fv ρ).bind λv=>(fk ρ).bind λq=>rO (uC ks ds q v)) k ρ λal=>k.nx (ρ.set i (some (.own (eT al))))
 |_=>un
theorem yD{ks ds:List D}{k v:D}{al':List (List Key×D)}(h:uC ks ds k v=some al'):∃al q,ks=encK al/\ds=al.map (·.2)/\k=.tup (q.map bN)/\small al.length=true/\al'=iA al q v:=by
 unfold uC at h;cases e1:oW ks ds with
 |none=>rw[e1]at h;cases h
 |some al=>
  rw[e1]at h;cases e2:jq k with
  |none=>rw[e2]at h;cases h
  |some q=>
   rw[e2]at h;obtain⟨h3,h4⟩:=bX (show(if small al.length then some (iA al q v)else none)=some al' from h);obtain⟨h1,h2⟩:=oN e1;exact⟨al,q,h1,h2,ox e2,h3,h4.symm⟩
theorem w6{kvs:List (List Key×V)}{al:List (List Key×D)}(e:kvs.map (·.1)=al.map (·.1))(k:List Key)(w:V)(d:D):(putK kvs k w).map (·.1)=(iA al k d).map (·.1):=by
 have e2:(kvs.any λp=>decide (p.1=k))=(al.any λp=>decide (p.1=k)):=by
  have:=congrArg (λl=>l.any λq=>decide (q=k)) e
  simpa [OM,Function.comp_def]using this
 unfold putK iA;rw[e2];split
 ·have e3:∀(l:List (List Key×V)),(l.map λkv=>if kv.1=k then(kv.1,w)else kv).map (·.1)=l.map (·.1):=λl=>by
   rw[OL];refine N5 λp _=>?_;show(if p.1=k then(p.1,w)else p).1=p.1;split<;>rfl
  have e4:∀(l:List (List Key×D)),(l.map λkv=>if kv.1=k then(kv.1,d)else kv).map (·.1)=l.map (·.1):=λl=>by
   rw[OL];refine N5 λp _=>?_;show(if p.1=k then(p.1,d)else p).1=p.1;split<;>rfl
  rw[e3,e4,e]
 ·rw[N6,N6,e];rfl
theorem xF{K:PD}{H:Hp}{k:List Key}{w:V}{d:D}(hw:cQ K H d w):∀{kvs:List (List Key×V)}{al:List (List Key×D)},kvs.map (·.1)=al.map (·.1)->bj K H (al.map (·.2)) (kvs.map (·.2))->
  bj K H ((al.map λp=>if p.1=k then(p.1,d)else p).map (·.2)) ((kvs.map λp=>if p.1=k then(p.1,w)else p).map (·.2))
 |[],[],_,h=>h
 |p::r,q::r',e,h=>by
  rw[Ny,Ny]at e;injection e with e1 e2;rw[Ny,Ny,bM]at h;obtain⟨v,ws,h0,h1,h2⟩:=h;injection h0 with h0 h0';subst h0 h0';have ih:=xF (k:=k) hw e2 h2;rw[Ny,Ny,Ny,Ny,bM];refine⟨_,_,rfl,?_,ih⟩;rw[e1];split
  ·exact hw
  ·exact h1
 |[],_::_,e,_=>by cases e
 |_::_,[],e,_=>by cases e
theorem y4{K:PD}{H:Hp}{k:List Key}{w:V}{d:D}(hw:cQ K H d w){kvs:List (List Key×V)}{al:List (List Key×D)}(e:kvs.map (·.1)=al.map (·.1))(h:bj K H (al.map (·.2)) (kvs.map (·.2))):
  bj K H ((iA al k d).map (·.2)) ((putK kvs k w).map (·.2)):=by
 have e2:(kvs.any λp=>decide (p.1=k))=(al.any λp=>decide (p.1=k)):=by
  have:=congrArg (λl=>l.any λq=>decide (q=k)) e
  simpa [OM,Function.comp_def]using this
 unfold putK iA;rw[e2];split
 ·exact xF hw e h
 ·rw[N6,N6];exact h.append (bM.mpr ⟨w,[],rfl,hw,cY.mpr rfl⟩)
theorem Cd{kvs:List (List Key×V)}{al:List (List Key×D)}(e:kvs.map (·.1)=al.map (·.1)):encK al=kvs.map λp=>D.tup (p.1.map bN):=by
 have:=congrArg (List.map λk:List Key=>D.tup (k.map bN)) e
 rw[OL,OL]at this;exact this.symm
theorem xD{H:Hp}{a:QL}{o1 o2:HO}:upd (upd H a o1) a o2=upd H a o2:=by
 funext b;by_cases e:b=a
 ·subst e;rw[bb,bb]
 ·rw[aQ e,aQ e,aQ e]
def Gr(td ty tv:TE):TS:=λD σ H=>tv σ H λv H1=>td σ H1 λx H2=>ty σ H2 λy H3=>∃a k b kvs,x=.ref a/\y=.ref b/\H3 b=some (.tup (k.map kV))/\(H3 a=some (.dT kvs)\/(H3 a=some (.dK [])/\kvs=[]))/\kvs.length<QO/\D.nx σ (upd H3 a (.dT (putK kvs k v)))
section
variable{X:Cx}{o idx value:QX}{pos pos':Pos}{td ty tv:TE}
theorem BZ(hu:X.A.units+1<Rl)(ho:PE X o td)(hi:PE X idx ty)(hv:PE X value tv)(hs:swapsWith value (some (.Subscript o idx pos')) pos.line X.env=pure false):PS X (.Assign [.Subscript o idx pos'] value pos) (Gr td ty tv):=by
 intro pins s σ H D I h;refine wpAny_Assign_Subscript (eQ (hv pins s σ H _ I h) λr s1 ⟨v,H1,I1,rv,q1⟩=>eQ (ho pins s1 σ H1 _ I1 q1) λu s2 ⟨x,H2,I2,rx,q2⟩=>eQ (hi pins s2 σ H2 _ I2 q2) λiv s3 ⟨y,H3,I3,ry,a,k,b,kvs,ex,ey,hb,ha,hl,q3⟩=>?_) hs;subst ex ey;obtain rfl:u=Value.ref a:=rx;rcases ha with ha|⟨ha,rfl⟩
 ·exact mD hu I3 (Hq.t ha hb hl) ry rv λs4 I4=>⟨σ,_,I4,q3⟩
 ·have ne:b≠a:=λz=>by rw[z,ha]at hb;cases hb
  refine mD hu (En I3 ha) (Hq.t bb (by rw[aQ ne];exact hb) hl) ry rv λs4 I4=>⟨σ,_,I4,?_⟩
  rw[xD];exact q3
end
theorem J7{X:Cx}{i:Nat}{x:Str}{idx value:QX}{fk fv:FX}{npos tpos pos:Pos}(hu:X.A.units+64<Rl)(hx:PE X (.Name x npos) (xn i))(hi:FE X idx fk)(hv:FE X value fv)
  (hs:swapsWith value (some (.Subscript (.Name x npos) idx tpos)) pos.line X.env=pure false:=by rfl):
  FS X (.Assign [.Subscript (.Name x npos) idx tpos] value pos) (tX i fk fv):=λHb Ob pins s σ H E I ⟨O,ρ,k,rr,S,hF,hk⟩=>by
 unfold tX at hF;split at hF
 ·rename_i ks ds hxs;obtain⟨a,ha,haO,hat⟩:=S.env.own i _ hxs;have hP:=i7.on hF hk S (Q:=λal=>k.nx (ρ.set i (some (.own (eT al))))=rr) λp e=>e;refine BZ ‹0› hx hi hv hs pins s σ H E I ⟨O,ρ,S.env,(i7.bind hP).imp λy hP v H1 s1 d1=>?_⟩;have S1:=S.same s1;refine⟨.ref a,ha,O,ρ,S1.env,((i7.bind hP).mono s1).imp λj hP w H2 s2 d2=>?_⟩;have S2:=S1.same s2;obtain⟨al',hg,e⟩:=i7.rO hP;obtain⟨al,q,f1,f2,f3,f4,f5⟩:=yD hg;subst f1 f2 f3 f5;have s12:=s1.trans s2;obtain⟨b,ws,eb,g1,g2⟩:=cG.mp d2;rw[iN g2]at g1;have hat2:eO X.K H2 O a (eT al):=hat.mono (let ⟨_,z⟩:=hat.some;qM s12 z) (cy s12);have dv:cQ X.K (hid H2 O) y v:=d1.mono (cy s2);have fin:∀kvs:List (List Key×V),kvs.map (·.1)=al.map (·.1)->bj X.K (hid H2 O) (al.map (·.2)) (kvs.map (·.2))->eO X.K (upd H2 a (.dT (putK kvs q v))) O a (eT (iA al q y)):=λkvs k2 k3=>
   ⟨_,_,bb,(y4 dv k2 k3).mono (jg haO),.inr ⟨putK kvs q v,rfl,Cd (w6 k2 q v y),rfl⟩⟩
  rcases Ky hat2 with⟨kvs,k1,k2,k3⟩|⟨k1,rfl⟩
  ·have hl:kvs.length=al.length:=(by have:=congrArg List.length k2;simpa using this);exact⟨a,q,b,kvs,rfl,eb,(aK H2 O) _ _ g1,.inl k1,by rw[hl];exact Od (of_decide_eq_true f4) (by decide),hk.nx O _ σ _ (S2.setO hxs ha trivial (fin kvs k2 k3)) e⟩
  ·exact⟨a,q,b,[],rfl,eb,(aK H2 O) _ _ g1,.inr ⟨k1,rfl⟩,by decide,hk.nx O _ σ _ (S2.setO hxs ha trivial (fin [] rfl (cY.mpr rfl))) e⟩
 ·exact absurd hF.symm hk.ne
end TG
namespace TG
open PySem PySem.Spec L2
variable[bd]
end TG
namespace TG
open PySem PySem.Spec PySem.W PySem.Calls PyProof.Rows Builtin Builtin.ObjectAttr Builtin.Getset_descriptor
variable[bd]
end TG
namespace TG
open PySem PySem.Spec L2
variable[bd]
open PyProof.Rows (AllBare OwnCls)
end TG
namespace TG
open PySem PySem.Spec L2
variable[bd]
end TG
namespace TG
open PySem PySem.Spec L2
variable[bd]
end TG
namespace TG
open PySem PySem.Spec L2
variable[bd]
end TG
namespace TG
open PySem PySem.Spec L2
def oI(P:QL)(pos:Pos)(q:Str):(QL->Prop)->QN->Prop:=λS h=>h.get? P=some (Qa #[])\/∃c,S c/\h.get? P=some (Qa #[rawInt pos.line,rawInt pos.col,.ref c])/\h.CodeRec (.ref c) q
theorem oI.stay{P:QL}{pos:Pos}{q:Str}{S1 S2:QL->Prop}{h1 h2:QN}(x:oI P pos q S1 h1)(s:∀b,S1 b->S2 b)(k:∀b o,(b=P\/S1 b)->h1.get? b=some o->h2.get? b=some o):oI P pos q S2 h2:=by
 rcases x with e|⟨c,hc,e,c',o,vs,t,ec,e1,r⟩
 ·exact .inl (k _ _ (.inl rfl) e)
 ·cases ec;exact .inr ⟨c,s c hc,k _ _ (.inl rfl) e,c,o,vs,t,rfl,k _ _ (.inr hc) e1,r⟩
theorem oI.ok{Pg:QK}{w:QJ}{H:Hp}{h:QN}{P:QL}{pos:Pos}{q:Str}(x:oI P pos q (λb=>H b=some (.own P)) h):cM Pg w H h P (.ext (oI P pos q)):=
 ⟨x,by rcases x with e|⟨_,_,e,_⟩<;>exact⟨_,e⟩,λ_ _ _ _ x s k=>x.stay s k⟩
abbrev vp(P:QL)(pos:Pos)(q:Str):bd:=⟨λH=>H P=some (.ext (oI P pos q)),λh e=>e _ _ h,λ{H p o o'} h hp m=>by
 rw[aQ]
 ·exact h
 ·rintro rfl;rw[h]at hp;cases hp;exact m⟩
open PySem PySem.Spec PyProof.Rows PySem.W L2
variable[bd]
def sS(key:List D)(h:QN)(k:QI):Prop:=∃b o xs n,k=.ref b/\h.get? b=some o/\o.cls=.type "tuple"/\o.data=.seq xs n/\gq xs.toList key
theorem sS.keep{key:List D}{h h':QN}{k:QI}(x:sS key h k)(kp:∀b o,h.get? b=some o->h'.get? b=some o):sS key h' k:=by
 obtain⟨b,o,xs,n,e,ho,r⟩:=x;exact⟨b,o,xs,n,e,kp _ _ ho,r⟩
theorem sS.stay{key:List D}{h h':QN}{k:QI}{c:QL}{xs:Array QI}{n:Nat}(x:sS key h k)(hc:h.get? c=some (seqObj "list" xs n))(kp:∀b o,b≠c->h.get? b=some o->h'.get? b=some o):sS key h' k:=by
 obtain⟨b,o,ys,m,e,ho,hk,r⟩:=x;refine⟨b,o,ys,m,e,kp _ _ (λz=>?_) ho,hk,r⟩;subst z;rw[hc]at ho;cases ho;revert hk;show¬(Value.type "list"=Value.type "tuple");simp
section
variable{prog:QK}{w:QJ}{A:QT}{E:QI->QU->Prop}{s:QU}
theorem Bk{ks:List QI}{keys:List (List D)}{σ:List Bool}{b:Bool}{Q:R4->QU->Prop}(hl:ks.length=keys.length)(hsh:∀k∈keys,Sh (b::σ) k)(h1:1<=ks.length)
  (hk:∀i,i<ks.length->sS (keys.getD i []) s.heap (ks.getD i Value.none)) (h:Q (tuples' true) s):QW (model prog w) A (keyKind' ks.toArray) Q E s:=by
 obtain⟨fs,t1,t2,t3⟩:=nO (h:=s.heap) (PT:=λf=>typeOf f=pure (.type (if b then"int"else"str"))) (its:=ks) λv hv=>by
  obtain⟨i,hi,rfl⟩:=N3 hv;obtain⟨a,o,xs,n,e1,ho,hc,hd,ff⟩:=hk i hi;have hi':i<keys.length:=by omega
  have gk:keys.getD i []=keys[i]:=by simp[hi']
  rw[gk]at ff;obtain⟨f,ef,tf⟩:=ff.first (hsh _ (OH hi'));have gv:ks.getD i Value.none=ks[i]:=by simp[hi]
  rw[gv]at e1;exact⟨a,o,xs,n,f,e1,ho,hc,hd,by simpa using ef,tf⟩
 refine kat_kind (T:=.type (if b then"int"else"str")) t1 ‹0› (λf hf=>Looks.of_pure (t3 f hf)) (by cases b<;>rfl) ?_
 have:(Value.type (if b then"int"else"str") !=Value.type "tuple")=true:=by cases b<;>rfl
 rw[this];exact h
theorem yo{ks:List QI}{keys:List (List D)}{σ:List Bool}{b:Bool}(hl:ks.length=keys.length)(hsh:∀k∈keys,Sh (b::σ) k)
  (hk:∀i,i<ks.length->sS (keys.getD i []) s.heap (ks.getD i Value.none)):lN (R5 prog w A (tuples' true) ks) (rank keys) ks.length s:=by
 intro i j C hi hj hC;obtain⟨a,o,xs,n,e1,ho,hc,hd,ff⟩:=hk i hi;obtain⟨a2,o2,xs2,n2,e2,ho2,hc2,hd2,ff2⟩:=hk j hj;unfold R5;rw[e1,e2];have hi':i<keys.length:=by omega
 have hj':j<keys.length:=by omega
 have gi:keys.getD i []=keys[i]:=by simp[hi']
 have gj:keys.getD j []=keys[j]:=by simp[hj']
 have sh1:=hsh _ (OH hi');have sh2:=hsh _ (OH hj');have rl:=qB (ks:=keys) hsh hi' hj';rw[rl]at hC;rw[gi]at ff;rw[gj]at ff2;rw[gi,gj]at hC;refine kat_lt ho hd ho2 hd2 (ji ?_ sh1 sh2 ff ff2 hC);have z1:xs.size=keys[i].length:=by have:=ff.length;simpa using this
 have z2:xs2.size=keys[j].length:=by have:=ff2.length;simpa using this
 have z3:keys[i].length=keys[j].length:=by rw[Sh.length sh1,Sh.length sh2]
 exact decide_eq_false ‹0›
theorem Dh{f:QI}{a:QL}{vs:List QI}{n:Nat}{keys:List (List D)}{σ:List Bool}{b:Bool}{P:PySem.Fin->QU->Prop}
  (ho:s.heap.get? a=some (seqObj "list" vs.toArray n)) (h64:vs.length<64) (hl:keys.length=vs.length) (hsh:∀k∈keys,Sh (b::σ) k)
  (hc:∀ (i:Nat) (v:QI) (h':QN) (tk:Nat) (Q':QI->QU->Prop),vs[i]?=some v->(∀ c o,c≠a->s.heap.get? c=some o->h'.get? c=some o) ->
   (∀k h'' tk',(∀c o,h'.get? c=some o->h''.get? c=some o)->sS (keys.getD i []) h'' k->Q' k {s with heap:=h'',toks:=tk'})->QW (model prog w) A (call f [v]) Q' (λ_ _=>False) {s with heap:=h',toks:=tk})
  (h:∀ (p:Array Nat) (h':QN) (e tk:Nat),PM vs.length p->Up (rank keys) p vs.length->(∀ c o,c≠a->s.heap.get? c=some o->h'.get? c=some o)->h'.get? a=some (seqObj "list" (List.toArray (p.toList.map fun i=>vs.getD i Value.none)) e) ->
   P (.done (.ret .none)) {s with heap:=h',toks:=tk}):QW (model prog w) A (ksk_tree a f false) P E s:=by
 have ha:a<s.heap.objs.size:=Qh ho;obtain⟨e1,ho1⟩:∃e1,(s.heap.update a (Obj.mapSeq λ_=>(#[]:Array QI))).get? a=some (seqObj "list" #[] e1):=⟨_,R7 ho (λ_=>#[])⟩
 unfold ksk_tree;refine Q5 (listItems_at ho rfl ?_);refine Q5 (R6 ho rfl ?_ (by rw[M8,Rf];omega) (Nc _));refine Q5 (R8 ho1 rfl ?_);refine Q5 (RY ?_ (by show vs.length<=_;rw[Rf];omega));refine Q5 (R9 ?_ (Nc _));refine Ry ?_;have hkS:((s.heap.update a (Obj.mapSeq λ_=>(#[]:Array QI))).push (seqObj "tuple" vs.toArray 0)).objs.size=s.heap.objs.size+1:=by rw[size_push',Qp]
 show QW (model prog w) A (ksk_rest a f false vs.toArray e1 (.ref ((s.heap.update a (Obj.mapSeq λ_=>(#[]:Array QI))).push (seqObj "tuple" vs.toArray 0)).objs.size)) P E {s with heap:=((s.heap.update a (Obj.mapSeq λ_=>(#[]:Array QI))).push (seqObj "tuple" vs.toArray 0)).push (seqObj "list" #[] 0)};rw[hkS];have hS0:(((s.heap.update a (Obj.mapSeq λ_=>(#[]:Array QI))).push (seqObj "tuple" vs.toArray 0)).push (seqObj "list" #[] 0)).get? (s.heap.objs.size+1)=some (seqObj "list" #[] 0):=by rw[<-hkS];exact Ql _ rfl
 have hA0:(((s.heap.update a (Obj.mapSeq λ_=>(#[]:Array QI))).push (seqObj "tuple" vs.toArray 0)).push (seqObj "list" #[] 0)).get? a=some (seqObj "list" #[] e1):=Qk _ (Qk _ ho1);have hK0:∀b o,b≠a->s.heap.get? b=some o->(((s.heap.update a (Obj.mapSeq λ_=>(#[]:Array QI))).push (seqObj "tuple" vs.toArray 0)).push (seqObj "list" #[] 0)).get? b=some o:=λb o hb e=>
  Qk _ (Qk _ (by rw[Qq _ _ _ _ hb];exact e))
 have hne:a≠s.heap.objs.size+1:=MR (NR ha);have hold:∀c o,s.heap.get? c=some o->c≠s.heap.objs.size+1:=λc o e=>MR (NR (Qh e));generalize (((s.heap.update a (Obj.mapSeq λ_=>(#[]:Array QI))).push (seqObj "tuple" vs.toArray 0)).push (seqObj "list" #[] 0))=h0 at hS0 hA0 hK0;generalize s.heap.objs.size+1=kS at hS0 hne hold;unfold ksk_rest;refine Q5 (RL ?_)
 first
  |rw[List.forIn_toArray]
  |(rw[<-Array.forIn_toList];simp only[OO])
  |rw[<-Array.forIn_toList]
 refine Q5 (ksk_fold (λi s'=>∃(ks:List QI)(e:Nat)(h':QN)(tk:Nat),s'={s with heap:=h',toks:=tk}/\ks.length=i/\i<=vs.length/\h'.get? kS=some (seqObj "list" (List.toArray ks) e)/\h'.get? a=some (seqObj "list" #[] e1)/\
  (∀c o,c≠a->s.heap.get? c=some o->h'.get? c=some o)/\∀j,j<i->sS (keys.getD j []) h' (ks.getD j Value.none)) vs 0 _ ⟨[],0,h0,s.toks,rfl,rfl,Nc _,hS0,hA0,hK0,λj hj=>absurd hj (Nat.not_lt_zero _)⟩ ?_ ?_)
 ·rintro j x s' hx ⟨ks,e,h',tk,rfl,hlen,hle,hS,hA,hK,hT⟩;rw[Ot]at hlen hle hT;have hj:j<vs.length:=by
   rcases OQ j vs.length with z|z
   ·exact z
   ·rw[OS z]at hx;cases hx
  refine Q5 (RZ (Q0 (hc j x h' tk (λk s''=>∃h'' tk',s''={s with heap:=h'',toks:=tk'}/\(∀c o,h'.get? c=some o->h''.get? c=some o)/\sS (keys.getD j []) h'' k) hx hK λk h'' tk' kp tK=>⟨h'',tk',rfl,kp,tK⟩) (λk s'' hk=>?_) λ_ _ hF=>hF.elim));obtain⟨h'',tk',rfl,kp,tK⟩:=hk;have nk:=kp _ _ hS;have s1:∀c o,c≠kS->h''.get? c=some o->(h''.update kS (Obj.mapSeq (·.push k))).get? c=some o:=λc o hc' e=>by rw[Qq _ _ _ _ hc'];exact e
  have ea:(List.toArray ks).push k=List.toArray (ks++[k]):=by simp
  obtain⟨c2,hc2⟩:∃c2,(h''.update kS (Obj.mapSeq (·.push k))).get? kS=some (seqObj "list" (List.toArray (ks++[k])) c2):=⟨_,by rw[<-ea];exact R7 nk (·.push k)⟩
  try dsimp only
  refine Q5 (R6 nk rfl ?_ (by rw[M8,Rf];omega) (MS (Nb (Array.size_push ..)) (by rw[M8,Rf];omega)));refine Q4 ⟨rfl,ks++[k],c2,_,tk',rfl,by rw[Np,Nw];omega,by omega,hc2,s1 _ _ hne (kp _ _ hA),λc o h1 h2=>s1 _ _ (hold c o h2) (kp _ _ (hK c o h1 h2)),λi hi=>?_⟩;refine sS.stay (c:=kS) ?_ nk s1;by_cases z:i=j
  ·subst z
   have:(ks++[k]).getD i Value.none=k:=(by simp[OJ,<-hlen]);rw[this];exact tK
  ·have hi':i<ks.length:=by omega
   have:(ks++[k]).getD i Value.none=ks.getD i Value.none:=(by simp[OJ,Nk hi']);rw[this];exact(hT i ‹0›).keep kp
 ·rintro s' ⟨ks,e,h',tk,rfl,hlen,hle,hS,hA,hK,hT⟩;rw[Ot]at hlen hT
  try dsimp only
  refine Q5 (listItems_at hS rfl ?_);have tail:∀(p:Array Nat)(st:SortSt),(arrOf st).map (·.2)=List.toArray (p.toList.map λi=>vs.getD i Value.none)->failedOf st=none->PM vs.length p->Up (rank keys) p vs.length->QW (model prog w) A (ksk_tail a false e1 (.ref kS) st) P E {s with heap:=h',toks:=tk}:=by
   intro p st hout hf hp hu;obtain⟨ck,hck⟩:∃ck,(h'.update kS (Obj.mapSeq λ_=>(#[]:Array QI))).get? kS=some (seqObj "list" #[] ck):=⟨_,R7 hS λ_=>#[]⟩
   have hA2:(h'.update kS (Obj.mapSeq λ_=>(#[]:Array QI))).get? a=some (seqObj "list" #[] e1):=(by rw[Qq _ _ _ _ hne];exact hA);obtain⟨c2,hc2⟩:∃c2,((h'.update kS (Obj.mapSeq λ_=>(#[]:Array QI))).update a (Obj.mapSeq λ_=>List.toArray (p.toList.map λi=>vs.getD i Value.none))).get? a=some (seqObj "list" (List.toArray (p.toList.map λi=>vs.getD i Value.none)) c2):=⟨_,R7 hA2 λ_=>List.toArray (p.toList.map λi=>vs.getD i Value.none)⟩
   unfold ksk_tail
   try dsimp only
   rw[hout];refine Q5 (R6 hS rfl ?_ (by rw[M8,Rf];omega) (Nc _));refine Q5 (RX ?_);refine Q5 (R8 hA2 rfl ?_);simp only[NQ,if_false];refine Q5 (R6 hA2 rfl ?_ (Nc _) (by rw[M8,Nq,Array.length_toList,hp.size,Rf];omega));rw[hf];simp only[bne_self_eq_false,NQ,if_false];exact Q4 (h p _ c2 tk hp hu (λc o h1 h2=>by rw[Qq _ _ _ _ h1,Qq _ _ _ _ (hold c o h2)];exact hK c o h1 h2) hc2)
  unfold ksk_end
  try dsimp only
  simp only[NQ,if_false];have hl2:ks.length=vs.length:=hlen;by_cases h2:vs.toArray.size<2
  ·rw[if_pos h2,if_pos h2];refine Q5 (Q4 ?_);rw[StateT.run_pure];refine Q5 (Q4 ?_);dsimp only;refine tail (List.toArray (List.range vs.length)) _ ?_ rfl (Array.Perm.refl _) λi j hij hj=>?_
   ·refine kat_snds hl2 ?_;show(List.toArray ks).zip vs.toArray=_;have e:=kas_range ((List.toArray ks).zip vs.toArray);rw[show((List.toArray ks).zip vs.toArray).size=vs.length by simp[hl2]]at e;exact e.symm
   ·have:vs.length<2:=by simpa using h2
    have:i=j:=(by omega);subst this;exact M3 _
  ·have h2':2<=vs.length:=by
    have:¬vs.length<2:=(by simpa using h2);omega
   rw[if_neg h2,if_neg h2];refine Q5 (Bk (s:={s with heap:=h',toks:=tk}) ‹0› hsh ‹0› (λi hi=>hT i ‹0›) ?_);refine Q5 (Q0 (kat_run (Q:=λst' s'=>∃p:Array Nat,arrOf st'=p.map (kas_item ((List.toArray ks).zip vs.toArray))/\failedOf st'=none/\PM vs.length p/\Up (rank keys) p vs.length/\s'={s with heap:=h',toks:=tk})
    (G:=λp s'=>PM vs.length p/\Up (rank keys) p vs.length/\s'={s with heap:=h',toks:=tk})
    hl2 h2' h64 (λp' st' s' a1 a2 a3 a4=>⟨p',a2,a3,a4.1,a4.2.1,a4.2.2⟩) (by
     have:=yo (prog:=prog) (w:=w) (A:=A) (s:={s with heap:=h',toks:=tk}) (ks:=ks) (keys:=keys) ‹0› hsh (λi hi=>hT i ‹0›)
     rw[hl2]at this;exact y9 this ‹0› λp hp hu=>⟨hp,hu,rfl⟩)) ?_ λ_ _ e=>e)
   rintro⟨⟨⟩,st'⟩ s' ⟨p,har,hf,hp,hu,rfl⟩;dsimp only;exact tail p st' (kat_snds hl2 har) hf hp hu
theorem wJ{src:QI}{f:QL}{vs:List QI}{keys:List (List D)}{σ:List Bool}{b:Bool}{Q:QI->QU->Prop}(h64:vs.length<64)(hl:keys.length=vs.length)(hsh:∀k∈keys,Sh (b::σ) k)
  (hcol:∀(Q':List QI->QU->Prop),(∀h' tk,(∀b o,s.heap.get? b=some o->h'.get? b=some o)->Q' vs {s with heap:=h',toks:=tk})->QW (model prog w) A.in1 (collect src) Q' E s)
  (hc:∀ (i:Nat) (v:QI) (h':QN) (tk:Nat) (Q':QI->QU->Prop),vs[i]?=some v->(∀ c o,s.heap.get? c=some o->h'.get? c=some o) ->
   (∀k h'' tk',(∀c o,h'.get? c=some o->h''.get? c=some o)->sS (keys.getD i []) h'' k->Q' k {s with heap:=h'',toks:=tk'})->QW (model prog w) A.in1.in1 (call (.ref f) [v]) Q' (λ_ _=>False) {s with heap:=h',toks:=tk})
  (h:∀(p:Array Nat)(h1 h':QN)(l:QL)(e tk:Nat),PM vs.length p->Up (rank keys) p vs.length->(∀b o,s.heap.get? b=some o->h1.get? b=some o)->(∀b o,h1.get? b=some o->h'.get? b=some o)->h1.objs.size<=l->h'.get? l=some (seqObj "list" (List.toArray (p.toList.map λi=>vs.getD i Value.none)) e)->Q (.ref l) {s with heap:=h',toks:=tk}):
  QW (model prog w) A (call (.builtin "sorted") [src] [(Str.ofString "key",.ref f)]) Q E s:=by
 refine PyProof.Rows.call_function_entry_kw kind_sorted plain_sorted entry_sorted (ksk_s1 _ _) ?_;unfold Builtin.«sorted»;refine Q5 (m:=checkCount "sorted" 1 1 _) (Q4 ?_);refine Q5 (hcol _ λh1 tk k1=>?_);refine Q5 (R9 ?_ (by rw[Rf];omega));have hoL:(h1.push (seqObj "list" vs.toArray 0)).get? h1.objs.size=some (seqObj "list" vs.toArray 0):=Ql _ rfl;have k2:∀b o,s.heap.get? b=some o->(h1.push (seqObj "list" vs.toArray 0)).get? b=some o:=λb o e=>Qk _ (k1 b o e);have ne:∀b o,s.heap.get? b=some o->b≠h1.objs.size:=λb o e=>MR (Qh (k1 b o e));refine Q5 (Ry (wpAny_call_entry_kw slot_list_sort ⟨_,hoL,rfl⟩ entry_list_sort ?body (ksk_l1 _ _)))
 case body=>
  show QW (model prog w) A.in1.in1 (Builtin.«list.sort» ⟨[.ref h1.objs.size],[(Str.ofString "key",.ref f)]⟩) _ _ _;rw[ksk_t1];refine Dh (s:={s with heap:=h1.push (seqObj "list" vs.toArray 0),toks:=tk}) hoL h64 hl hsh (λi v h' tk' Q' hv hk hq=>hc i v h' tk' Q' hv (λc o e=>hk c o (ne c o e) (k2 c o e)) hq) λp h' e tk' hp hu hk he=>⟨_,rfl,?_⟩
  refine Q4 ⟨_,rfl,?_⟩;exact h p h1 h' h1.objs.size e tk' hp hu k1 (λb o q=>hk b o (MR (Qh q)) (Qk _ q)) (M3 _) he
end
end TG
namespace TG
open PySem PySem.Spec PyProof.Rows PySem.W L2
variable[bd]
abbrev cutE(row many:Str)(np mp p2 pos:Pos):QX:=.Subscript (.Name row np) (.Slice none (some (.Name many mp)) none p2) pos
section
variable{prog:QK}{w:QJ}{A:QT}{E:QI->QU->Prop}{s:QU}
theorem Df{env:Env}{row many:Str}{np mp p2 pos:Pos}{r c:QL}{items:Array QI}{i:Int}{t:Tok}{m:Str->Option QI}{Q:QI->QU->Prop}
  (hk:env.scope.kind=.function) (hr:env.kindOf row=some .local) (hm:env.kindOf many=some .free) (hn:s.heap.Ns env.locals m) (hrow:m row=some (.ref r)) (hc:env.cells.lookup many=some c) (hcell:s.heap.IsCell c (some (.int i t)))
  (ht:QP s.heap r items) (hz:items.size<=QO) (d1:(row==("__debug__":Str))=false) (d2:(many==("__debug__":Str))=false) (d3:(many==("__classdict__":Str))=false)
  (h:∀b h',(∀c o,s.heap.get? c=some o->h'.get? c=some o)->QP h' b (List.toArray (items.toList.take (HT.sIx items.size items.size (some i))))->Q (.ref b) {s with heap:=h'}):
  QW (model prog w) A (eval (cutE row many np mp p2 pos) env) Q E s:=by
 refine RE (Q1 (wpAny_loadName_local hk hr hn hrow ?_) d1);refine wpAny_Slice ?_;rw[RD,evalPart_some];refine Q4 (Q1 (wpAny_loadName_free hk hm hc hcell ?_ d3) d2);refine Q4 ?_;have kp:∀c o,s.heap.get? c=some o->(s.heap.push {cls:=.type "slice",data:=.fields #[.none,.int i t,.none]}).get? c=some o:=λc o q=>Qk _ q;have ht':QP (s.heap.push {cls:=.type "slice",data:=.fields #[.none,.int i t,.none]}) r items:=by
  obtain⟨o,e,q⟩:=ht;exact⟨o,kp _ _ e,q⟩
 have hs:(s.heap.push {cls:=.type "slice",data:=.fields #[.none,.int i t,.none]}).IsSliceOf s.heap.objs.size .none (.int i t) .none:=Heap.IsSliceOf.new ..
 show QW (model prog w) A (subscriptTail (.Name row np) (.Slice none (some (.Name many mp)) none p2) (.ref r) (.ref s.heap.objs.size)) Q E {s with heap:=s.heap.push {cls:=.type "slice",data:=.fields #[.none,.int i t,.none]}};refine tail_any (ops:=[.ref s.heap.objs.size,.ref r]) ht'.typeIs slot_tuple_getitem.lookup ?_ (by with_unfolding_all rfl);by_cases hw:HT.sIx items.size 0 none=0/\HT.sIx items.size items.size (some i)=items.size
 ·refine iD (s:={s with heap:=s.heap.push {cls:=.type "slice",data:=.fields #[.none,.int i t,.none]}}) ht' hs .none (.int i t) hw ?_;refine h r _ kp ?_;rw[hw.2]
  have:items.toList.take items.size=items.toList:=OT (by simp)
  rw[this]
  simpa using ht'
 ·refine HT.zB (s:={s with heap:=s.heap.push {cls:=.type "slice",data:=.fields #[.none,.int i t,.none]}}) ht' hs .none (.int i t) hw ?_ hz;refine h _ _ (λc o q=>Qk _ (kp c o q)) ?_;have e0:HT.sIx items.size 0 none=0:=rfl;rw[e0,NV,N9];exact⟨_,Ql _ rfl,rfl,_,rfl⟩
theorem BX{f c' cc r:QL}{row many qual:Str}{params:Rp}{scope:QV}{np mp p2 pos:Pos}{pm ctv:QI}{items:Array QI}{i:Int}{t:Tok}{Q:QI->QU->Prop}
  (hf:s.heap.get? f=some (Sb "<lambda>" qual params (cutE row many np mp p2 pos) scope [(many,cc)] pm c' ctv)) (hcd:s.heap.CodeRec (.ref c') qual) (hroom:A.depth<Rj) (hlim:s.heap.NoLimit)
  (hbind:∀v,bindArgs (kla_fn "<lambda>" qual params (cutE row many np mp p2 pos) scope [(many,cc)] pm (.ref c') ctv) ⟨[v],[]⟩=pure [(row,v)])
  (hco:scope.isCoroutine=false) (hgen:scope.isGenerator=false) (hk:scope.kind=.function) (hno:∀x∈scope.names,x.2≠.cell) (hr:scope.names.lookup row=some .local) (hm:scope.names.lookup many=some .free)
  (hcell:s.heap.IsCell cc (some (.int i t))) (ht:QP s.heap r items) (hz:items.size<=QO) (d1:(row==("__debug__":Str))=false) (d2:(many==("__debug__":Str))=false) (d3:(many==("__classdict__":Str))=false)
  (h:∀b h' tk,(∀c o,s.heap.get? c=some o->h'.get? c=some o)->QP h' b (List.toArray (items.toList.take (HT.sIx items.size items.size (some i))))->Q (.ref b) {s with heap:=h',toks:=tk}):
  QW (model prog w) A (call (.ref f) [.ref r]) Q E s:=by
 refine wpAny_call (kla_callFunE hroom hf rfl hco hgen rfl hcd ?_);rw[hbind];refine Q4 (wpAny_newFunctionEnv hno (λx hx=>?_) (λh₁ hns hsb=>⟨hlim.fresh _ hsb,?_⟩) hk)
 ·rw[OU]at hx;subst hx;exact hr
 ·show Rg _ _ (.expr (cutE row many np mp p2 pos) (envX qual scope s.heap.objs.size f (.ref c') [(many,cc)])) _ _;have hk₁:∀b o,s.heap.get? b=some o->h₁.get? b=some o:=λb o e=>hsb.extBut b o (MR (Qh e)) (Qk _ e);refine kla_codeExpr (Df (m:=λx=>[(row,Value.ref r)].reverse.lookup x) (r:=r) (c:=cc) (t:=t) hk hr hm hns ?_ ?_ ?_ ?_ hz d1 d2 d3 λb h' kp tb=>h b h' _ (λc o e=>kp c o (hk₁ c o e)) tb)
  ·simp
  ·simp
  ·obtain⟨o,e,q⟩:=hcell;exact⟨o,hk₁ _ _ e,q⟩
  ·obtain⟨o,e,q⟩:=ht;exact⟨o,hk₁ _ _ e,q⟩
end
end TG
namespace TG
open PySem PySem.Spec PyProof.Rows PySem.W L2
variable[bd]
def AK(mg:Str->Option QI)(base:QN)(c P:QL):Prop:=CodeHd base c P/\∃bm ob,mg "__builtins__"=some (.ref bm)/\bm≠QR/\base.get? bm=some ob/\ob.cls=.type "module"/\ob.dict=some QR/\ob.data=.plain
section
variable{fs ex:List QL}{Pg:QK}{w:QJ}{H:Hp}{h h':QN}{P c':QL}{φ:(QL->Prop)->QN->Prop}
theorem HA(hP:H P=some (.ext φ))(k:∀b o,b≠P->h.get? b=some o->h'.get? b=some o)(hp:∃o,h'.get? P=some o)(hc:h.objs.size<=c')(hn:H c'=none):Un fs ex H (upd H c' (.own P)) h h' where
 keep:=λb u q n _ _=>k b u (λz=>by rw[z,hP]at n;cases n) q
 slot:=λb u q n _ _=>⟨u.slots,k b u (λz=>by rw[z,hP]at n;cases n) q⟩
 free:=λb u q n _=>by rw[aQ (MR (MP (Qh q) hc))];exact n
 there:=λb u q _=>by
  by_cases z:b=P
  ·rw[z];exact hp
  ·exact⟨u,k b u z q⟩
 tups:=λb xs q=>by rw[aQ (bg q hn)];exact q
 frzs:=λb u xs q=>by rw[aQ (bg q hn)];exact q
 tbls:=λb ps q=>⟨#[],by rw[aQ (bg q hn),q];simp⟩
theorem DS(x:oM Pg w H h)(hP:H P=some (.ext φ))(k:∀b o,b≠P->h.get? b=some o->h'.get? b=some o)(hc:h.objs.size<=c')(ho:∃o,h'.get? c'=some o)(new:cM Pg w (upd H c' (.own P)) h' P (.ext φ)):oM Pg w (upd H c' (.own P)) h':=λb u e=>by
 have hn:=x.fresh hc;by_cases hb:b=c'
 ·subst hb;rw[bb]at e;cases e;exact ho
 ·rw[aQ hb]at e;by_cases hb2:b=P
  ·subst hb2;rw[hP]at e;cases e;exact new
  ·refine(x b u e).stay (λc v hc' q=>k c v ?_ q) (λc q=>by rw[aQ (bg q hn)];exact q) λc xs q=>by rw[aQ (bg q hn)];exact q
   rcases hc' with rfl|hc'
   ·exact hb2
   ·rintro rfl;rw[hP]at hc';cases hc'
end
theorem AK.blt{mg:Str->Option QI}{base h:QN}{c P:QL}{m:Str->Option QI}(B:AK mg base c P)(kp:∀b o,base.get? b=some o->h.get? b=some o)(hP:base.get? P=none)(hg:base.Ns QQ m):h.BuiltinsAt mg P:=by
 obtain⟨_,bm,ob,b1,b2,b3,b4,b5,b6⟩:=B;refine⟨bm,ob,b1,b2,λz=>?_,λz=>?_,kp _ _ b3,b4,b5,b6⟩
 ·subst z;obtain⟨o,es,ep,e,hd,_⟩:=hg;rw[e]at b3;cases b3;rw[hd]at b6;cases b6
 ·subst z;rw[hP]at b3;cases b3
section
variable{X:Cx}{pins:List (QL×Obj)}{s:QU}{σ:L2.St}{H:Hp}{E:QI->QU->Prop}
theorem Di{c P:QL}{lpos:Pos}{params:Rp}{body:QX}{scope:QV}{clos:List (Str×QL)}{Q:QI->QU->Prop}(I:Inv X pins σ H s)(B:AK X.mg X.base c P)(hcode:X.env.code=.ref c)(hP:H P=some (.ext (oI P lpos (X.env.qual++"<lambda>"))))
  (hdef:defaultsOf params X.env=([],[])) (hcl:closureFor scope X.env=pure clos)
  (h:∀f c' ctv s' H',Inv X pins σ H' s'->bE H H'->s'.heap.get? f=some (Sb "<lambda>" (X.env.qual++"<lambda>") params body scope clos ((X.mg "__name__").getD .none) c' ctv)->s'.heap.CodeRec (.ref c') (X.env.qual++"<lambda>")->Q (.ref f) s'):
  QW (model X.prog X.w) X.A (eval (.Lambda params body scope lpos) X.env) Q E s:=by
 have hg:s.heap.Ns QQ X.mg:=I.mod.glob.keeps I.bk;have hPn:X.base.get? P=none:=by
  cases q:X.base.get? P with
  |none=>rfl
  |some o=>have:=(I.bs P o q).2;rw[hP]at this;cases this
 have hgP:QQ≠P:=λz=>by
  obtain⟨o,es,ep,e,_⟩:=I.mod.glob;rw[z,hPn]at e;cases e
 have hb:=B.blt I.bk hPn I.mod.glob;have C:=B.1.keeps I.bk;obtain⟨tb,_,_⟩:=I.hok P _ hP;refine kla_eval hdef ?_;rcases tb with e|⟨c',hc',e,hrec⟩
 ·refine kla_makeFunction hcl I.ok.glob hg hcode C e trivial rfl hgP hb λc' ctv h' tk hx hge hlt hrec htb=>?_;have hn:=I.hok.fresh hge;have htb':h'.get? P=some (tabObj #[rawInt lpos.line,rawInt lpos.col,.ref c']):=by simpa using htb
  have kp:∀b o,b≠P->s.heap.get? b=some o->(h'.push (Sb "<lambda>" (X.env.qual++"<lambda>") params body scope clos ((X.mg "__name__").getD .none) c' ctv)).get? b=some o:=λb o hb' q=>Qk _ (hx b o hb' q);have hrec':(h'.push (Sb "<lambda>" (X.env.qual++"<lambda>") params body scope clos ((X.mg "__name__").getD .none) c' ctv)).CodeRec (.ref c') (X.env.qual++"<lambda>"):=by
   obtain⟨c2,oc,vs,t,ec,eo,r⟩:=hrec;exact⟨c2,oc,vs,t,ec,Qk _ eo,r⟩
  have hco:∃o,(h'.push (Sb "<lambda>" (X.env.qual++"<lambda>") params body scope clos ((X.mg "__name__").getD .none) c' ctv)).get? c'=some o:=by
   obtain⟨c2,oc,vs,t,ec,eo,r⟩:=hrec;cases ec;exact⟨oc,Qk _ eo⟩
  refine h _ c' ctv _ (upd H c' (.own P)) (I.un (HA hP kp ⟨_,Qk _ htb'⟩ hge hn) (DS I.hok hP kp hge hco (oI.ok (.inr ⟨c',bb,Qk _ htb',hrec'⟩)))) (cf hn _) (Ql _ rfl) hrec'
 ·refine kla_makeFunctionHit (cv:=.ref c') hcl I.ok.glob hg hcode C e trivial ?_ hb λctv h' tk hk hsz=>?_
  ·show(if((lpos.line:Int)==(lpos.line:Int)&&(lpos.col:Int)==(lpos.col:Int))=true then some (Value.ref c')else _)=_;simp
  ·have kp:∀b o,s.heap.get? b=some o->(h'.push (Sb "<lambda>" (X.env.qual++"<lambda>") params body scope clos ((X.mg "__name__").getD .none) c' ctv)).get? b=some o:=λb o q=>Qk _ (hk b o q);refine h _ c' ctv _ H (I.kept kp) (bE.refl H) (Ql _ rfl) ?_;obtain⟨c2,oc,vs,t,ec,eo,r⟩:=hrec;exact⟨c2,oc,vs,t,ec,kp _ _ eo,r⟩
end
def sR(m:Nat):D->List D
 |.tup ks=>ks.take m
 |_=>[]
def Im(m:Nat)(xs:List D):Prop:=xs.length<64/\∃σ:List Bool,σ≠[]/\(∀x∈xs,∃k,x=.tup k/\Sh σ (k.take m))/\xs.Pairwise λx y=>sR m x≠sR m y
open Classical in
noncomputable def qO(m:Nat)(xs:List D):Option D:=if Im m xs then some (.lst (iW (sR m) xs))else none
noncomputable def pG:D->D->Option D
 |.lst xs,.int i=>if 0<=i then qO i.toNat xs else none
 |.tup xs,.int i=>if 0<=i then qO i.toNat xs else none
 |_,_=>none
theorem uJ:∀{vs:List V}{us:List QI}(n:Nat),Vals vs us->Vals (vs.take n) (us.take n)
 |_,_,0,_=>by rw[NT,NT];exact .nil
 |_,_,_+1,.nil=>.nil
 |_,_,n+1,.cons r t=>by rw[NU,NU];exact .cons r (uJ n t)
theorem Eg{i:Int}(h:0<=i)(n:Nat):HT.sIx n n (some i)=min i.toNat n:=by
 show(if i<0 then _ else _)=_;rw[if_neg ‹0›]
theorem iJ:QS "sorted"=some (.builtin "sorted"):=by first|rfl|decide +kernel
section
variable{X:Cx}{pins:List (QL×Obj)}{s:QU}{σ:L2.St}{H:Hp}{O:List QL}
theorem yT{u:QI}{ds:List D}{vs:List V}{its:List QI}{d:D}{i:Int}{t:Tok}{c' cc f:QL}{row many qual:Str}{params:Rp}{scope:QV}{np mp p2 pos:Pos}{pm ctv:QI}{Q:VK}
  (I:Inv X pins σ H s) (hO:dW H O) (dn:bj X.K (hid H O) ds vs) (rv:Vals vs its) (h0:0<=i) (hs:qO i.toNat ds=some d)
  (hf:s.heap.get? f=some (Sb "<lambda>" qual params (cutE row many np mp p2 pos) scope [(many,cc)] pm c' ctv)) (hcd:s.heap.CodeRec (.ref c') qual) (hroom:X.A.depth<Rj)
  (hbind:∀v,bindArgs (kla_fn "<lambda>" qual params (cutE row many np mp p2 pos) scope [(many,cc)] pm (.ref c') ctv) ⟨[v],[]⟩=pure [(row,v)])
  (hco:scope.isCoroutine=false) (hgen:scope.isGenerator=false) (hk:scope.kind=.function) (hno:∀x∈scope.names,x.2≠.cell) (hr:scope.names.lookup row=some .local) (hm:scope.names.lookup many=some .free)
  (hcell:s.heap.IsCell cc (some (.int i t))) (d1:(row==("__debug__":Str))=false) (d2:(many==("__debug__":Str))=false) (d3:(many==("__classdict__":Str))=false)
  (hcol:∀(Q':List QI->QU->Prop),(∀h' tk,(∀b o,s.heap.get? b=some o->h'.get? b=some o)->Q' its {s with heap:=h',toks:=tk})->QW (model X.prog X.w) X.A.in1 (collect u) Q' X.xe s)
  (q:∀v H',bE H H'->cQ X.K (hid H' O) d v->Q v H'):QW (model X.prog X.w) X.A (call (.builtin "sorted") [u] [(Str.ofString "key",.ref f)]) (EP X pins σ Q) X.xe s:=by
 have l1:=dn.length;have l2:=rv.length;unfold qO at hs;split at hs
 ·rename_i hS;cases hs;obtain⟨h64,σ',hσ,hsh,pw⟩:=hS;obtain⟨b,σ1,rfl⟩:∃b σ1,σ'=b::σ1:=by
   cases σ' with
   |nil=>exact absurd rfl hσ
   |cons b σ1=>exact⟨b,σ1,rfl⟩
  have hsh':∀x∈ds,Sh (b::σ1) (sR i.toNat x):=λx hx=>by
   obtain⟨k,rfl,hk⟩:=hsh x hx;exact hk
  refine wJ (keys:=ds.map (sR i.toNat)) (σ:=σ1) (b:=b) ‹0› (by rw[Nq];omega) (λk hk=>by obtain⟨x,hx,rfl⟩:=List.mem_map.mp hk;exact hsh' x hx) hcol (λj v h' tk Q' hv kp hq=>?_) λp h1 h' l e tk hp hu k1 k2 hl he=>?_
  ·have hj:j<its.length:=by
    rcases OQ j its.length with z|z
    ·exact z
    ·rw[OS z]at hv;cases hv
   have hj':j<ds.length:=(by omega);obtain⟨v0,e1,dv⟩:=dn.get (i:=j) (d:=ds[j]) (by simp[hj']);obtain⟨w,e2,rw'⟩:=rv.get e1;rw[hv]at e2;cases e2;obtain⟨k,ek,hk'⟩:=hsh _ (OH hj');have ekey:(ds.map (sR i.toNat)).getD j []=k.take i.toNat:=by
    have:(ds.map (sR i.toNat)).getD j []=sR i.toNat ds[j]:=(by simp[hj']);rw[this,ek];rfl
   rw[ekey]at hq;rw[ek]at dv;obtain⟨a,ws,rfl,ha,dk⟩:=cG.mp dv;cases rw';obtain⟨it2,r2,ht,hz⟩:=I.tuple (cq (aK H O) ha);have hz':it2.toArray.size<=QO:=(by rw[M8,<-r2.length];exact hz);refine BX (s:={s with heap:=h',toks:=tk}) (i:=i) (t:=t) (kp _ _ hf) ?_ hroom (I.nolimit.keeps kp) hbind hco hgen hk hno hr hm ?_ (items:=it2.toArray) ?_ hz' d1 d2 d3 λb2 h'' tk' kp2 tb=>?_
   ·obtain⟨c2,oc,vs',t',ec,eo,r⟩:=hcd;exact⟨c2,oc,vs',t',ec,kp _ _ eo,r⟩
   ·obtain⟨o,e,q⟩:=hcell;exact⟨o,kp _ _ e,q⟩
   ·obtain⟨o,e,q⟩:=ht;exact⟨o,kp _ _ e,q⟩
   ·refine hq _ h'' tk' kp2 ?_;obtain⟨o,eo,hc,n,hd⟩:=tb;refine⟨b2,o,_,n,rfl,eo,hc,hd,?_⟩;have e3:(List.toArray (it2.toArray.toList.take (HT.sIx it2.toArray.size it2.toArray.size (some i)))).toList=it2.take i.toNat:=by
     rw[Eg h0];simp only[M8,OO];rcases OV i.toNat it2.length with z|z
     ·rw[OW z]
     ·rw[OX z,OT (M3 _),OT z]
    rw[e3];exact jS (mM hk') (dk.take i.toNat) (uJ i.toNat r2)
  ·have el:its.length=ds.length:=(by omega);rw[el]at hp hu;have ps:=qo (key:=sR i.toNat) hsh' pw hp hu;have hr:p.toList.Perm (List.range ds.length):=by
    have:=Array.perm_iff_toList_perm.mp hp
    simpa using this
   have hlt:∀i∈p.toList,i<ds.length:=λi hi=>by simpa using hr.mem_iff.mp hi
   have I1:Inv X pins σ H {s with heap:=h1,toks:=tk}:=I.kept k1;have hn:H l=none:=I1.hok.fresh hl;have rv':=pB rv p.toList λi hi=>by have:=hlt i hi;omega
   have dn':=pZ dn p.toList hlt;have hlen:p.toList.length=ds.length:=(by rw[hr.length_eq,N7]);refine⟨.ref l,_,Inv.laid (s:={s with heap:=h1,toks:=tk}) (t':=tk) I1 k2 hl (show cM X.prog X.w _ h' _ (.lst (p.toList.map λi=>vs.getD i .non))from⟨by rw[Nq,hlen,Rf];omega,_,e,rv',he⟩),rfl,?_⟩;refine q _ _ (cf hn _) ?_;rw[<-ps];exact dq hO hn dn'
 ·cases hs
theorem Ik{f:FX}{j:Nat}{k:Nat}{c P cc:QL}{e:QX}{p lpos kp pos np mp p2 spos:Pos}{row many:Str}{params:Rp}{scope:QV}
  (hr:iF k X.A) (hg:Gl X "sorted") (hm:X.mg "sorted"=none) (B:AK X.mg X.base c P) (hcode:X.env.code=.ref c) (hT:∀H,bd.tab H->H P=some (.ext (oI P lpos (X.env.qual++"<lambda>"))))
  (he:FE X e f) (hN:X.N[j]?=some many) (hkm:X.env.kindOf many=some .cell) (hv:Hs X.env.scope many) (hcc:X.env.cells.lookup many=some cc) (hcl:closureFor scope X.env=pure [(many,cc)]) (hdef:defaultsOf params X.env=([],[]))
  (hbind:∀cdv ctv v,bindArgs (Qb "<lambda>" (X.env.qual++"<lambda>") params (cutE row many np mp p2 spos) scope [(many,cc)] ((X.mg "__name__").getD .none) cdv ctv) ⟨[v],[]⟩=pure [(row,v)])
  (hco:scope.isCoroutine=false) (hgen:scope.isGenerator=false) (hk:scope.kind=.function) (hno:∀x∈scope.names,x.2≠.cell) (hlr:scope.names.lookup row=some .local) (hlm:scope.names.lookup many=some .free)
  (d1:(row==("__debug__":Str))=false) (d2:(many==("__debug__":Str))=false) (d3:(many==("__classdict__":Str))=false) (hns:noStar e=true:=by rfl):
  FE X (.Call (.Name "sorted" p) [e] [⟨some "key",.Lambda params (cutE row many np mp p2 spos) scope lpos,kp⟩] pos) (f2 pG f (af j)):=by
 intro pins s σ H Q I ⟨O,ρ,E,hF⟩;refine Rq (lB I hg hm iJ ?_);have st:backTo pos (QY [e] X.env)=(false,eval e X.env)::backTo pos (QY [] X.env):=by rw[fg hns];rfl
 refine PyProof.Rows.callWith_kw ?_ ?_ (iZ (by rw[NX,hns];rfl))
 ·refine eQ (mC he pI (fg hns) pos pins s σ H (λvs H1=>∃v d a m,vs=[v]/\bE H H1/\ρ[j]?=some (some (.val m))/\pG a m=some d/\cQ X.K (hid H1 O) a v/\∀v H',bE H H'->cQ X.K (hid H' O) d v->Q v H') I ⟨O,ρ,E,(i7.bind hF).imp λa hF v H1 s1 d1=>?_⟩) λus s1 ⟨vs,H1,I1,rv,v,d,a,m,ev,s1',em,hd,dn,q⟩=>?_
  ·obtain⟨m,em,hF⟩:=uB (i7.bind hF);obtain⟨d,e,q⟩:=i7.rO hF;exact⟨v,d,a,m,rfl,s1,em,e,d1,q⟩
  ·subst ev;obtain⟨u,eu,ru⟩:=vals1 rv;subst eu;have E1:=E.same s1';show QW _ _ (evalAll ((do let v<-eval (.Lambda params (cutE row many np mp p2 spos) scope lpos) X.env;standAt pos;pure v)::[])) _ _ s1;refine wpAny_evalAll_cons (Q5 (Di I1 B hcode (hT _ E1.all.1) hdef hcl λfa c' ctv s2 H2 I2 s2' hfa hcr=>Q5 (RJ (Q4 (wpAny_evalAll_nil ?_)))));show QW (model X.prog X.w) X.A (call (.builtin "sorted") [u] [(Str.ofString "key",.ref fa)]) (EP X pins σ Q) X.xe s2;have E2:=E1.same s2';obtain⟨vm,e3,dm⟩:=E2.val j m em;have core:∀(i:Int)(xs:List D),m=.int i->0<=i->qO i.toNat xs=some d->∀(ys:List V)(its:List QI),bj X.K (hid H2 O) xs ys->Vals ys its->
     (∀(Q':List QI->QU->Prop),(∀h' tk,(∀b o,s2.heap.get? b=some o->h'.get? b=some o)->Q' its {s2 with heap:=h',toks:=tk})->QW (model X.prog X.w) X.A.in1 (collect u) Q' X.xe s2)->
     QW (model X.prog X.w) X.A (call (.builtin "sorted") [u] [(Str.ofString "key",.ref fa)]) (EP X pins σ Q) X.xe s2:=by
    intro i xs ei h0 hs ys its dl ri hcol;subst ei;rw[fj]at dm;subst dm;obtain⟨mm,hns',hl⟩:=I2.loc;obtain⟨uv,ruv,lk⟩:=hl j many (.int i) hN e3 hv;obtain⟨t,rfl⟩:=ruv;have hcell:s2.heap.IsCell cc (some (.int i t)):=by
     rcases lk with⟨z,_⟩|⟨_,c2,ec,hc2⟩
     ·rw[hkm]at z;cases z
     ·rw[hcc]at ec;cases ec;exact hc2
    have dp:=hr.dp;exact yT I2 E2.all dl ri h0 hs hfa hcr ‹0› (λv=>hbind (.ref c') ctv v) hco hgen hk hno hlr hlm hcell d1 d2 d3 hcol λv H' sm dd=>q v H' ((s1'.trans s2').trans sm) dd
   have dn2:=dn.mono (cy (O:=O) s2');unfold pG at hd;split at hd
   ·rename_i xs i;split at hd
    ·rename_i h0;obtain⟨l,ys,el,g1,g2⟩:=cH.mp dn2;subst el;cases ru;obtain⟨its,ri,pl,hz⟩:=I2.list ((aK H2 O).seq g1);have hlen:=ri.length;obtain⟨o,ho,hc,n,hd'⟩:=pl.isList;exact core i xs rfl h0 hd ys its g2 ri λQ' hQ=>Sa l (.inl rfl) ho hc hd' (λh' k=>by simpa using hQ h' s2.toks k) (by simp only[M8]<;>omega)
    ·cases hd
   ·rename_i xs i;split at hd
    ·rename_i h0;obtain⟨l,ys,el,g1,g2⟩:=cG.mp dn2;subst el;cases ru;obtain⟨its,ri,⟨o,ho,hc,n,hd'⟩,hz⟩:=I2.tuple (cq (aK H2 O) g1);have hlen:=ri.length;exact core i xs rfl h0 hd ys its g2 ri λQ' hQ=>Sa l (.inr rfl) ho hc hd' (λh' k=>by simpa using hQ h' s2.toks k) (by simp only[M8]<;>omega)
    ·cases hd
   ·cases hd
 ·exact st
end
end TG
namespace TG
open PySem PySem.Spec PyProof.Rows PySem.W L2
section
variable[bd]{P:QK}{w:QJ}{K:PD}{mg:Str->Option QI}{base:QN}
def ud(K:PD)(f:QL)(cdv:QI):Prop:=∃oc od fd sl,K.lookup f=some ⟨oc,od,.func fd,sl⟩/\fd.code=cdv
theorem ud.one{f:QL}{a b:QI}(h:ud K f a)(h':ud K f b):a=b:=by
 obtain⟨oc,od,fd,sl,e,r⟩:=h;obtain⟨oc',od',fd',sl',e',r'⟩:=h';rw[e]at e';cases e';rw[<-r,<-r']
structure uX(P:QK)(w:QJ)(K:PD)(mg:Str->Option QI)(base:QN)(k:Nat)(N:List Str)(qual:Str)(st:QZ)(f:QL)(B:cx):Prop where
 h:∀(cdv:QI)(A:QT)(outer:List Env)(s:QU)(H:Hp)(E:XK),ud K f cdv->iF k (A.deeper (envOfC qual (aB st) s.heap.objs.size f cdv))->Q7 (model P w) (A.deeper (envOfC qual (aB st) s.heap.objs.size f cdv)) (envOfC qual (aB st) s.heap.objs.size f cdv) (kG (nZ P w) P w K mg base N qual (aB st) f cdv A outer s H E).xe->
  xO (kG (nZ P w) P w K mg base N qual (aB st) f cdv A outer s H E) (fI st) B
theorem B5{x qual:Str}{st:QZ}{f:QL}{fd:Rm}{N ps:List Str}{k:Nat}{B:cx}(F:xQ K x qual st f fd)(SC:bw N ps (aB st))(hb:uX P w K mg base k N qual st f B):
  nA P w K mg base (nZ P w) (k+1) f fd ps (Bs K ps.length (bv B ps.length N.length)):=by
 obtain⟨oc,od,kV,doc,pm,an,cd,ct,osl,rfl,lk,hcd⟩:=F.ex;refine FU lk hcd SC (λvs H Q E h=>?_) λA outer s H vs Q E hr h=>?_
 ·obtain⟨O,ds,h1,_⟩:=h;exact h1
 ·obtain⟨O,ds,h1,h2,h3,h4⟩:=h;have hl:ds.length=ps.length:=h3.length.trans h1;have e4:bv B ps.length N.length ds=B K0 (env0 N.length ds):=by unfold bv;rw[if_pos hl]
  rw[e4]at h4;refine⟨_,hb.h cd A outer s H E ⟨_,_,_,_,lk,rfl⟩ hr PassesOwn.leaving H O,O,env0 N.length ds,K0,_,⟨sK h2 h3,⟨bE.refl H,λ_ z=>z,λa z=>.inl z⟩,λi xs a e=>?_,λi d e=>by obtain⟨d',_,e2⟩:=iX i _ e;cases e2⟩,rfl,?_⟩
  ·obtain⟨d',_,e2⟩:=iX i _ e;cases e2
  ·generalize B K0 (env0 N.length ds)=r at h4;refine⟨λz=>by rw[z]at h4;exact h4,λO' ρ' σ' H' S e=>?_,λO' ρ' σ' H' S e=>?_,λO' ρ' σ' H' S e=>?_,λd O' v H' e b dv=>?_,λO' ρ' σ' H' x S e=>?_⟩
   ·have e:(.ok .non:R D)=r:=e;subst e;exact h4 .non H' S.base.same (kN.mpr rfl)
   ·have e:(un:R D)=r:=e;subst e;exact h4.elim
   ·have e:(un:R D)=r:=e;subst e;exact h4.elim
   ·subst e;exact h4 v H' b.same (dv.mono (iY b.sub))
   ·have e:(.error (some x):R D)=r:=e;subst e;exact Cz h4 S.base.same S.base.sub
theorem yM{x qual:Str}{st:QZ}{f:QL}{fd:Rm}{N ps:List Str}{k:Nat}{B:cx}(F:xQ K x qual st f fd)(b:Binds K fd ps [])(m:mg x=some (.ref f))(SC:bw N ps (aB st))(hb:uX P w K mg base k N qual st f B):
  Callee P w K mg base (k+1) x ps (bv B ps.length N.length):=⟨f,fd,B5 F SC hb,b,F.kp,m⟩
end
def yQ(mg:Str->Option QI)(base:QN):Prop:=∃bm ob,mg "__builtins__"=some (.ref bm)/\bm≠QR/\base.get? bm=some ob/\ob.cls=.type "module"/\ob.dict=some QR/\ob.data=.plain
theorem DR{K:PD}{mg:Str->Option QI}{base:QN}{c P:QL}(X:K.In base)(e:codeHdIn K c P=true)(b:yQ mg base):AK mg base c P:=⟨codeHd_of_K X e,b⟩
theorem DE{P:QK}{w:QJ}{K:PD}{mg mb:Str->Option QI}{CX:Bq}{k:Nat}{fa a c T:QL}{lpos:Pos}{q:Str}{fd:Rm}{x:Str}{sp:Sp}{s₁:QU}{vs:List QI}{ns:List Int}
  (KX:K.In s₁.heap) (hns:s₁.heap.Ns QQ mg) (hb:s₁.heap.Ns QR mb) (hbb:∀x:Str,x≠"__name__"->mb x=QS x) (hlim:s₁.heap.NoLimit) (hg:s₁.gens=#[]) (hbm:yQ mg s₁.heap)
  (hT:s₁.heap.get? T=some (tabObj #[])) (hC:codeHdIn K c T=true) (hKT:K.lookup T=none)
  (ha:s₁.heap.get? a=some {cls:=.type "list",data:=.seq vs.toArray}) (hi:IntsAre vs ns) (hl:ns.length<=QO) (hr:iF k callerA)
  (F:∀base:QN,K.In base->base.Ns QQ mg->yQ mg base->nA P w K mg base CX k fa fd [x] sp) (hbind:∀(s:QU)(u:QI),Rn s fd ⟨[u],[]⟩ [(x,u)])
  (hsp:∀H:Hp,H T=some (.ext (oI T lpos q))->n0 K H a (ns.map V.int)->sp [.ref a] H (λv H'=>v=.bl true/\bE H H') λ_ _ _=>False)
  (hCX:∀H e s',CX [] H s₁ (λ_ _ _=>False) e s'->False):
  Rg (model P w) callerA (.call (.ref fa) ⟨[.ref a],[]⟩) (λr s'=>r=.ok (.ret (.bool true))/\OldK s₁.heap s'.heap/\s'.os=s₁.os/\AllBare s'.gens) s₁:=by
 have rv:=uA hi;have lenV:=hi.length;have aT:a≠T:=λz=>by rw[z,hT]at ha;cases ha
 obtain⟨H,hH⟩:∃H:Hp,H=λb=>if b=T then some (.ext (oI T lpos q))else if b=a/\(K.lookup a).isNone=true then some (.frz {cls:=.type "list",data:=.seq vs.toArray} (.lst (ns.map V.int)))else none:=⟨_,rfl⟩
 have hHT:H T=some (.ext (oI T lpos q)):=by rw[hH];exact if_pos rfl
 have cases':∀b u,H b=some u->(b=T/\u=.ext (oI T lpos q))\/(b=a/\K.lookup a=none/\u=.frz {cls:=.type "list",data:=.seq vs.toArray} (.lst (ns.map V.int))):=λb u e=>by
  rw[hH]at e;by_cases z:b=T
  ·have e:=(if_pos z).symm.trans e;cases e;exact .inl ⟨z,rfl⟩
  ·have e:=(if_neg z).symm.trans e;by_cases z':b=a/\(K.lookup a).isNone=true
   ·have e:=(if_pos z').symm.trans e;cases e;exact .inr ⟨z'.1,by simpa using z'.2,rfl⟩
   ·have e:=(if_neg z').symm.trans e;cases e
 have free:∀b o,s₁.heap.get? b=some o->o.cls≠.none->o.cls≠.type "list"->H b=none:=λb o e h1 h2=>by
  cases z:H b with
  |none=>rfl
  |some u=>
   rcases cases' b u z with⟨e1,_⟩|⟨e1,_⟩
   ·rw[e1,hT]at e;cases e;exact absurd rfl h1
   ·rw[e1,ha]at e;cases e;exact absurd rfl h2
 have freeD:∀b o es ep,s₁.heap.get? b=some o->o.data=.dict es ep->H b=none:=λb o es ep e d=>by
  cases z:H b with
  |none=>rfl
  |some u=>
   rcases cases' b u z with⟨e1,_⟩|⟨e1,_⟩
   ·rw[e1,hT]at e;cases e;cases d
   ·rw[e1,ha]at e;cases e;have d':Data.seq vs.toArray _=Data.dict es ep:=d;cases d'
 have hS:n0 K H a (ns.map V.int):=by
  cases hk:K.lookup a with
  |some o=>
   have e:=KX a o hk;rw[ha]at e;cases e;exact .inr ⟨_,vs.toArray,_,hk,rfl,rfl,rfl,by rw[M8,lenV];exact hl,by simpa using rv⟩
  |none=>
   refine .inl (.inr ⟨{cls:=.type "list",data:=.seq vs.toArray},?_⟩);rw[hH];exact(if_neg aT).trans (if_pos ⟨rfl,by rw[hk];rfl⟩)
 have hok:oM P w H s₁.heap:=λb u e=>by
  rcases cases' b u e with⟨e1,e2⟩|⟨e1,_,e2⟩
  ·subst e1 e2;exact oI.ok (.inl hT)
  ·subst e1 e2;exact⟨ha,by rw[Nq];exact hl,vs,_,rv,ha⟩
 have nsK:∀{b:QL}{m:Str->Option QI},s₁.heap.Ns b m->(vM s₁.heap H).Ns b m:=λ{b m} ⟨o,es,ep,e,d,r⟩=>⟨o,es,ep,sE e (freeD b o es ep e d),d,r⟩
 have hKb:K.In (vM s₁.heap H):=λb o e=>sE (KX b o e) (by
  cases z:H b with
  |none=>rfl
  |some u=>
   rcases cases' b u z with⟨e1,_⟩|⟨e1,e2,_⟩
   ·rw[e1,hKT]at e;cases e
   ·rw[e1,e2]at e;cases e)
 have hbm':yQ mg (vM s₁.heap H):=by
  obtain⟨bm,ob,b1,b2,b3,b4,b5,b6⟩:=hbm;refine⟨bm,ob,b1,b2,sE b3 (free bm ob b3 ?_ ?_),b4,b5,b6⟩
  ·rw[b4];simp
  ·rw[b4];simp
 have hM:Mod K mg (vM s₁.heap H):=⟨hKb,nsK hns,⟨mb,nsK hb,hbb⟩,let ⟨mc,h1,h2⟩:=hlim;⟨mc,nsK h1,h2⟩⟩
 have e0:EY P w K mg (vM s₁.heap H) callerA [] s₁ H:=⟨rfl,hM,λb o e=>DZ e,Nb (AF _ _),trivial,λb hb=>absurd (show b∈([]:List QL)from hb) (by simp),hok,.of_eq hg⟩
 refine codeAny_mono ((F _ hKb (nsK hns) hbm').run callerA [] s₁ H ⟨[.ref a],[]⟩ [.ref a] [.ref a] _ _ hr e0 (hbind s₁ (.ref a)) (.cons rfl .nil) (hsp H hHT hS)) λr s' h=>?_;cases r with
 |error e=>exact(hCX H e s' h).elim
 |ok fl=>
  cases fl with
  |next=>exact False.elim h
  |brk=>exact False.elim h
  |cont=>exact False.elim h
  |ret u=>
   obtain⟨v,H',os,bare,unn,hok',r',q'⟩:=h;obtain⟨ev,sm⟩:v=.bl true/\bE H H':=q';subst ev;obtain rfl:u=Value.bool true:=r';have tb:=(hok' T _ (sm _ _ hHT)).1;obtain⟨ps,hps⟩:∃ps,s'.heap.get? T=some (tabObj ps):=by
    rcases tb with e|⟨_,_,e,_⟩
    ·exact⟨_,e⟩
    ·exact⟨_,e⟩
   have keep:∀b o,b≠T->s₁.heap.get? b=some o->s'.heap.get? b=some o:=λb o hb e=>by
    cases z:H b with
    |none=>exact unn.keep b o e z (by intro z;exact absurd (show b∈([]:List QL)from z) (by simp)) (by simp)
    |some u=>
     rcases cases' b u z with⟨e1,_⟩|⟨e1,_,e2⟩
     ·exact absurd e1 hb
     ·subst e2;have z2:=sm _ _ z;obtain⟨e3,_⟩:=hok' b _ z2;rw[e1,ha]at e;cases e;exact e3
   refine⟨rfl,⟨λb o e=>?_,λb o e=>?_⟩,os,bare⟩
   ·by_cases hb:b=T
    ·subst hb;rw[hT]at e;cases e;exact .inr (.inl ⟨((codeHd_of_K KX hC).tab hT).isCodeTable,rfl,#[],ps,rfl,by rw[Array.empty_append];exact hps⟩)
    ·exact .inl (keep b o hb e)
   ·by_cases hb:b=T
    ·subst hb;exact⟨_,hps⟩
    ·exact⟨o,keep b o hb e⟩
theorem BG{l:Qc}{n k:Nat}{q:QK}{loose:List Str}{XP:(Str->Option QI)->QN->Prop}{YP:QJ->QN->Prop}{d:DefRec}{K:Params->PD}{CX:QJ->Bq}{sp:QJ->Sp}{x qn:Str}{T:QL}{lpos:Pos}
  (hn:l.most=some n) (hn2:n<=QO) (hdf:d.params.defaults=[]) (hr:iF k callerA)
  (hY:∀(w:QJ)(h:QN),YP w h->(K w.params).In h/\h.get? T=some (tabObj #[]))
  (F:∀ (w:QJ) (mg:Str->Option QI) (fa:QL) (h:QN),(K w.params).In h->h.Ns QQ mg->mg d.name=some (.ref fa) ->
   (∃c,codeHdIn (K w.params) c T=true)/\(K w.params).lookup T=none/\∃fd:Rm,(∀(s:QU)(u:QI),Rn s fd ⟨[u],[]⟩ [(x,u)])/\
    ∀base:QN,(K w.params).In base->base.Ns QQ mg->yQ mg base->nA l.prog w (K w.params) mg base (CX w) k fa fd [x] (sp w))
  (hsp:∀(w:QJ)(H:Hp)(a:QL)(ns:List Int),ns.length<=n->H T=some (.ext (oI T lpos qn))->n0 (K w.params) H a (ns.map V.int)->sp w [.ref a] H (λv H'=>v=.bl true/\bE H H') λ_ _ _=>False)
  (hCX:∀(w:QJ)(H:Hp)(s:QU)(e:QI)(s':QU),CX w [] H s (λ_ _ _=>False) e s'->False):
  PySem.W.WalkO q loose XP YP l.row.toRowW d [] (λf vs=>PySem.call f vs):=by
 refine Att.Ft hn hdf λw s₀ s₁ mg mb fa o pm cd doc a vs ns G Y ho hd hcd hmg hobj hints hlen hg=>?_;obtain⟨KX,hT⟩:=hY w _ Y;obtain⟨⟨c,hC⟩,hKT,fd,hb,hF⟩:=F w mg fa _ KX G.T.g hmg;exact DE KX G.T.g G.T.b G.T.builtins G.T.nolimit hg G.T.bmain hT hC hKT hobj hints (MS hlen hn2) hr hF hb (λH hO hS=>hsp w H a ns hlen hO hS) λH e s'=>hCX w H s₁ e s'
open PySem PySem.Spec PySem.Calls L2
open PySem.SeqAt (EqAt list_indexAt)
variable[bd]
section
variable{X:Cx}{p pos:Pos}{e:QX}
end
end TG
namespace TG
open PySem PySem.Spec L2
variable[bd]
end TG
namespace TG
open PySem PySem.Spec PySem.Calls L2
open PySem.SeqAt (EqAt list_countAt)
variable[bd]
def yr:=HJ (λ_ j=>decide (0<=j)) λi j=>i/2^j.toNat
theorem yt{K:PD}:eB K (rI (λ_ j=>0<=j) λi j=>.int (i/2^j.toNat)) yr:=jw λ_ _ h=>of_decide_eq_true h
def se:=Fx λi j=>.int (Builtin.bitAnd i j)
theorem x9{K:PD}:eB K (CQ λi j=>.int (Builtin.bitAnd i j)) se:=rT
def qm:List D->List D->Option (List (Key×D))
 |[],[]=>some []
 |k::ks,d::ds=>(keyOf k).bind λk=>(qm ks ds).map ((k,d)::·)
 |_,_=>none
abbrev il(al:List (Key×D)):List D:=al.map λp=>bN p.1
abbrev w8(al:List (Key×D)):D:=.dct (il al) (al.map (·.2))
theorem kC(k:Key):keyOf (bN k)=some k:=by cases k<;>rfl
theorem rk{a b:Key}(h:bN a=bN b):a=b:=by
 have e:=congrArg keyOf h;rw[kC,kC]at e;exact Option.some.inj e
theorem wI:∀{ks ds:List D}{al:List (Key×D)},qm ks ds=some al->ks=il al/\ds=al.map (·.2)
 |[],[],_,h=>by cases h;exact⟨rfl,rfl⟩
 |k::ks,d::ds,al,h=>by
  unfold qm at h;cases e1:keyOf k with
  |none=>rw[e1]at h;cases h
  |some k'=>
   rw[e1]at h;cases e2:qm ks ds with
   |none=>rw[e2]at h;cases h
   |some al'=>
    rw[e2]at h;cases h;obtain⟨h1,h2⟩:=wI e2;rw[sg e1,h1,h2];exact⟨rfl,rfl⟩
 |[],_::_,_,h=>by cases h
 |_::_,[],_,h=>by cases h
theorem tM:∀al:List (Key×D),qm (il al) (al.map (·.2))=some al
 |[]=>rfl
 |p::r=>by
  show(keyOf (bN p.1)).bind _=_;rw[kC];show(qm (il r) (r.map (·.2))).map ((p.1,p.2)::·)=_;rw[tM r];rfl
theorem uo:∀{al:List (Key×D)}{ks:List Key},il al=ks.map bN->al.map (·.1)=ks
 |[],[],_=>rfl
 |p::r,k::ks,h=>by
  have h:bN p.1::il r=bN k::ks.map bN:=h;injection h with h1 h2;rw[Ny,rk h1,uo h2]
 |[],_::_,h=>by cases h
 |_::_,[],h=>by cases h
theorem Lr{K:PD}{H:Hp}{O:List QL}{a:QL}{al:List (Key×D)}(h:eO K H O a (w8 al)):
  (∃kvs:List (Key×V),H a=some (.dK kvs)/\kvs.map (·.1)=al.map (·.1)/\bj K (hid H O) (al.map (·.2)) (kvs.map (·.2)))\/(H a=some (.dT [])/\al=[]):=by
 obtain⟨o,vs,h1,h2,h3⟩:=h;rcases h3 with⟨kvs,e,e1,e2⟩|⟨kvs,e,e1,e2⟩
 ·subst e;refine .inl ⟨kvs,h1,?_,by rw[<-e2];exact h2⟩;exact(uo (ks:=kvs.map (·.1)) (by rw[OL];exact e1)).symm
 ·subst e;cases kvs with
  |nil=>
   refine .inr ⟨h1,?_⟩
   simpa using e1
  |cons p r=>
   cases al with
   |nil=>cases e1
   |cons q r'=>
    have e1:bN q.1::il r'=D.tup (p.1.map bN)::r.map (λp=>D.tup (p.1.map bN)):=e1;injection e1 with e1 _;rcases q with⟨k,v⟩
    cases k<;>cases e1
section
variable{κ:Type}[DecidableEq κ]
def qp(al:List (κ×D))(k:κ)(v:D):List (κ×D):=if(al.any λp=>decide (p.1=k))=true then al.map (λp=>if p.1=k then(p.1,v)else p)else al++[(k,v)]
theorem Bp{kvs:List (κ×V)}{al:List (κ×D)}(e:kvs.map (·.1)=al.map (·.1))(k:κ)(w:V)(d:D):(putK kvs k w).map (·.1)=(qp al k d).map (·.1):=by
 have e2:(kvs.any λp=>decide (p.1=k))=(al.any λp=>decide (p.1=k)):=by
  have:=congrArg (λl=>l.any λq=>decide (q=k)) e
  simpa [OM,Function.comp_def]using this
 unfold putK qp;rw[e2];split
 ·have e3:∀(l:List (κ×V)),(l.map λkv=>if kv.1=k then(kv.1,w)else kv).map (·.1)=l.map (·.1):=λl=>by
   rw[OL];refine N5 λp _=>?_;show(if p.1=k then(p.1,w)else p).1=p.1;split<;>rfl
  have e4:∀(l:List (κ×D)),(l.map λkv=>if kv.1=k then(kv.1,d)else kv).map (·.1)=l.map (·.1):=λl=>by
   rw[OL];refine N5 λp _=>?_;show(if p.1=k then(p.1,d)else p).1=p.1;split<;>rfl
  rw[e3,e4,e]
 ·rw[N6,N6,e];rfl
theorem ug{K:PD}{H:Hp}{k:κ}{w:V}{d:D}(hw:cQ K H d w):∀{kvs:List (κ×V)}{al:List (κ×D)},kvs.map (·.1)=al.map (·.1)->bj K H (al.map (·.2)) (kvs.map (·.2))->
  bj K H ((al.map λp=>if p.1=k then(p.1,d)else p).map (·.2)) ((kvs.map λp=>if p.1=k then(p.1,w)else p).map (·.2))
 |[],[],_,h=>h
 |p::r,q::r',e,h=>by
  rw[Ny,Ny]at e;injection e with e1 e2;rw[Ny,Ny,bM]at h;obtain⟨v,ws,h0,h1,h2⟩:=h;injection h0 with h0 h0';subst h0 h0';have ih:=ug (k:=k) hw e2 h2;rw[Ny,Ny,Ny,Ny,bM];refine⟨_,_,rfl,?_,ih⟩;rw[e1];split
  ·exact hw
  ·exact h1
 |[],_::_,e,_=>by cases e
 |_::_,[],e,_=>by cases e
theorem BK{K:PD}{H:Hp}{k:κ}{w:V}{d:D}(hw:cQ K H d w){kvs:List (κ×V)}{al:List (κ×D)}(e:kvs.map (·.1)=al.map (·.1))(h:bj K H (al.map (·.2)) (kvs.map (·.2))):
  bj K H ((qp al k d).map (·.2)) ((putK kvs k w).map (·.2)):=by
 have e2:(kvs.any λp=>decide (p.1=k))=(al.any λp=>decide (p.1=k)):=by
  have:=congrArg (λl=>l.any λq=>decide (q=k)) e
  simpa [OM,Function.comp_def]using this
 unfold putK qp;rw[e2];split
 ·exact ug hw e h
 ·rw[N6,N6];exact h.append (bM.mpr ⟨w,[],rfl,hw,cY.mpr rfl⟩)
end
def uq(ks ds:List D)(k v:D):Option (List (Key×D)):=(qm ks ds).bind λal=>(keyOf k).bind λk=>if small al.length then some (qp al k v)else none
def nK(i:Nat)(fk fv:FX):cx:=λk ρ=>match ρ[i]? with
 |some (some (.own (.dct ks ds)))=>sL ((fv ρ).bind λv=>(fk ρ).bind λq=>rO (uq ks ds q v)) k ρ λal=>k.nx (ρ.set i (some (.own (w8 al))))
 |_=>un
theorem xU{ks ds:List D}{k v:D}{al':List (Key×D)}(h:uq ks ds k v=some al'):∃al q,ks=il al/\ds=al.map (·.2)/\k=bN q/\small al.length=true/\al'=qp al q v:=by
 unfold uq at h;cases e1:qm ks ds with
 |none=>rw[e1]at h;cases h
 |some al=>
  rw[e1]at h;cases e2:keyOf k with
  |none=>rw[e2]at h;cases h
  |some q=>
   rw[e2]at h;obtain⟨h3,h4⟩:=bX (show(if small al.length then some (qp al q v)else none)=some al' from h);obtain⟨h1,h2⟩:=wI e1;exact⟨al,q,h1,h2,sg e2,h3,h4.symm⟩
theorem Ep{kvs:List (Key×V)}{al:List (Key×D)}(e:kvs.map (·.1)=al.map (·.1)):il al=kvs.map λp=>bN p.1:=by
 have:=congrArg (List.map bN) e
 rw[OL,OL]at this;exact this.symm
def Hu(td ty tv:TE):TS:=λD σ H=>tv σ H λv H1=>td σ H1 λx H2=>ty σ H2 λy H3=>∃a k kvs,x=.ref a/\y=kV k/\(H3 a=some (.dK kvs)\/(H3 a=some (.dT [])/\kvs=[]))/\kvs.length<QO/\D.nx σ (upd H3 a (.dK (putK kvs k v)))
section
variable{X:Cx}{o idx value:QX}{pos pos':Pos}{td ty tv:TE}
theorem C0(hu:X.A.units+1<Rl)(ho:PE X o td)(hi:PE X idx ty)(hv:PE X value tv)(hs:swapsWith value (some (.Subscript o idx pos')) pos.line X.env=pure false):PS X (.Assign [.Subscript o idx pos'] value pos) (Hu td ty tv):=by
 intro pins s σ H D I h;refine wpAny_Assign_Subscript (eQ (hv pins s σ H _ I h) λr s1 ⟨v,H1,I1,rv,q1⟩=>eQ (ho pins s1 σ H1 _ I1 q1) λu s2 ⟨x,H2,I2,rx,q2⟩=>eQ (hi pins s2 σ H2 _ I2 q2) λiv s3 ⟨y,H3,I3,ry,a,k,kvs,ex,ey,ha,hl,q3⟩=>?_) hs;subst ex ey;obtain rfl:u=Value.ref a:=rx;rcases ha with ha|⟨ha,rfl⟩
 ·exact mD hu I3 (Hq.k ha hl) ry rv λs4 I4=>⟨σ,_,I4,q3⟩
 ·refine mD hu (G7 I3 ha) (Hq.k bb hl) ry rv λs4 I4=>⟨σ,_,I4,?_⟩
  rw[xD];exact q3
end
theorem JL{X:Cx}{i:Nat}{x:Str}{idx value:QX}{fk fv:FX}{npos tpos pos:Pos}(hu:X.A.units+64<Rl)(hx:PE X (.Name x npos) (xn i))(hi:FE X idx fk)(hv:FE X value fv)
  (hs:swapsWith value (some (.Subscript (.Name x npos) idx tpos)) pos.line X.env=pure false:=by rfl):
  FS X (.Assign [.Subscript (.Name x npos) idx tpos] value pos) (nK i fk fv):=λHb Ob pins s σ H E I ⟨O,ρ,k,rr,S,hF,hk⟩=>by
 unfold nK at hF;split at hF
 ·rename_i ks ds hxs;obtain⟨a,ha,haO,hat⟩:=S.env.own i _ hxs;have hP:=i7.on hF hk S (Q:=λal=>k.nx (ρ.set i (some (.own (w8 al))))=rr) λp e=>e;refine C0 ‹0› hx hi hv hs pins s σ H E I ⟨O,ρ,S.env,(i7.bind hP).imp λy hP v H1 s1 d1=>?_⟩;have S1:=S.same s1;refine⟨.ref a,ha,O,ρ,S1.env,((i7.bind hP).mono s1).imp λj hP w H2 s2 d2=>?_⟩;have S2:=S1.same s2;obtain⟨al',hg,e⟩:=i7.rO hP;obtain⟨al,q,f1,f2,f3,f4,f5⟩:=xU hg;subst f1 f2 f3 f5;have s12:=s1.trans s2;have hat2:eO X.K H2 O a (w8 al):=hat.mono (let ⟨_,z⟩:=hat.some;qM s12 z) (cy s12);have dv:cQ X.K (hid H2 O) y v:=d1.mono (cy s2);have fin:∀kvs:List (Key×V),kvs.map (·.1)=al.map (·.1)->bj X.K (hid H2 O) (al.map (·.2)) (kvs.map (·.2))->eO X.K (upd H2 a (.dK (putK kvs q v))) O a (w8 (qp al q y)):=λkvs k2 k3=>
   ⟨_,_,bb,(BK dv k2 k3).mono (jg haO),.inl ⟨putK kvs q v,rfl,Ep (Bp k2 q v y),rfl⟩⟩
  rcases Lr hat2 with⟨kvs,k1,k2,k3⟩|⟨k1,rfl⟩
  ·have hl:kvs.length=al.length:=(by have:=congrArg List.length k2;simpa using this);exact⟨a,q,kvs,rfl,qN d2,.inl k1,by rw[hl];exact Od (of_decide_eq_true f4) (by decide),hk.nx O _ σ _ (S2.setO hxs ha trivial (fin kvs k2 k3)) e⟩
  ·exact⟨a,q,[],rfl,qN d2,.inr ⟨k1,rfl⟩,by decide,hk.nx O _ σ _ (S2.setO hxs ha trivial (fin [] rfl (cY.mpr rfl))) e⟩
 ·exact absurd hF.symm hk.ne
section
variable{X:Cx}
theorem Ii{pins:List (QL×Obj)}{σ:St}{H:Hp}{s:QU}{O:List QL}{ks ds:List D}{v:V}{qs:List Key}(I:Inv X pins σ H s)(h:cQ X.K (hid H O) (.dct ks ds) v)(hk:keysOf ks=some qs):
  ∃a vs,v=.ref a/\qs.length<=QO/\(a==sysModules)=false/\s.heap.DictOf (cN X.prog X.w) a vs/\vs.map (·.1)=qs:=by
 obtain⟨a,vs,e,_,h2⟩:=J9.mp h;have ek:=mE hk;rcases h2 with⟨kvs,h3,h4,_⟩|⟨kvs,h3,h4,_⟩|⟨kvs,o,h3,h4,_⟩
 rotate_left 2
 ·rw[h4]at hk;cases hk
 ·obtain⟨z,hd,us,rel,dd⟩:=Ff I.hok ((aK H O) _ _ h3);have e1:kvs.map (·.1)=qs:=by
   have:(kvs.map (·.1)).map bN=qs.map bN:=(by rw[OL,<-ek,h4];rfl);have e2:=congrArg keysOf this;rw[cA,cA]at e2;exact Option.some.inj e2
  refine⟨a,us,e,?_,hd,dd,?_⟩
  ·have:=congrArg List.length e1
   rw[Nq]at this;omega
  ·rw[<-rel.keys,e1]
 ·cases kvs with
  |nil=>
   rw[h4]at hk;cases hk;obtain⟨z,hd,us,rel,dd⟩:=(show cM X.prog X.w H s.heap a (.dK [])from xj (I.hok a _ ((aK H O) _ _ h3)))
   refine⟨a,us,e,Nc _,hd,dd,?_⟩;rw[<-rel.keys];rfl
  |cons p r=>
   rw[h4]at hk;cases hk
def uw:List D->Option D
 |[.dct ks _]=>(keysOf ks).bind λqs=>some (.int qs.length)
 |_=>none
theorem Ab:dZ X (.builtin "len") (xP X.K uw):=by
 intro pins s σ H xs us Q I r ⟨O,ds,d,hO,hd,hg,q⟩;unfold uw at hg;split at hg
 ·rename_i ks vs0;cases hk:keysOf ks with
  |none=>rw[hk]at hg;cases hg
  |some qs=>
   rw[hk]at hg;cases hg;obtain⟨v,ev,h1⟩:=hd.one;obtain⟨a,vs,e,z,hs,dd,e1⟩:=Ii I h1 hk;subst ev e;obtain⟨u,rfl,ru⟩:=vals1 r;cases ru;have hl:vs.length=qs.length:=(by have:=congrArg List.length e1;simpa using this);refine call_len_dict hs dd (by rw[Rf]at z;omega) ?_;rw[hl];exact⟨.int qs.length,H,I.tok _,⟨_,rfl⟩,q _ H (bE.refl H) (fj.mpr rfl)⟩
 ·cases hg
theorem Al{k:Key}{v:QI}(h:qf k v=true):RelV (kV k) v:=by
 rcases cT h with⟨i,t,rfl,rfl⟩|⟨x,t,rfl,rfl⟩
 ·exact⟨_,rfl⟩
 ·exact⟨_,rfl⟩
theorem uI{P:QK}{w:QJ}:∀{vs:List (Key×QI)}{its:List QI},its.length=vs.length->(∀(j:Nat)(v:QI),its[j]?=some v->∃(k:Key)(x:QI),vs[j]?=some (k,x)/\(cN P w).is k v=true)->Vals (vs.map λp=>kV p.1) its
 |[],[],_,_=>.nil
 |p::r,u::us,hl,h=>by
  obtain⟨k,x,e,hk⟩:=h 0 u rfl;cases e;exact .cons (Al (by rw[yy]at hk;exact hk)) (uI (by simpa using hl) λj v e=>h (j+1) v (by simpa using e))
 |[],_::_,hl,_=>by cases hl
 |_::_,[],hl,_=>by cases hl
theorem uF{K:PD}{H:Hp}:∀qs:List Key,bj K H (qs.map bN) (qs.map kV)
 |[]=>cY.mpr rfl
 |k::r=>bM.mpr ⟨kV k,_,rfl,by cases k with
  |inl i=>exact fj.mpr rfl
  |inr x=>exact fh.mpr rfl,uF r⟩
def lV:List D->Option D
 |[.dct ks _]=>(keysOf ks).bind λ_=>some (.lst ks)
 |_=>none
theorem rZ(hc:X.calm=true):dZ X (.type "list") (xP X.K lV):=by
 intro pins s σ H xs us Q I r ⟨O,ds,d,hO,hd,hg,q⟩;unfold lV at hg;split at hg
 ·rename_i ks vs0;cases hk:keysOf ks with
  |none=>rw[hk]at hg;cases hg
  |some qs=>
   rw[hk]at hg;cases hg;obtain⟨v,ev,h1⟩:=hd.one;obtain⟨a,vs,e,z,hs,dd,e1⟩:=Ii I h1 hk;subst ev e;obtain⟨u,rfl,ru⟩:=vals1 r;cases ru;have hl:vs.length=qs.length:=(by have:=congrArg List.length e1;simpa using this);obtain⟨ep,da⟩:=dd.dictAt;refine Qd (PySem.W.kdl_dict hs) (I.ok.hd hc) da ‹0› λh' tk acc' c' kp e2 it=>?_;have rv:Vals (qs.map kV) acc'.toList:=by
    have:=uI (P:=X.prog) (w:=X.w) (vs:=vs) (its:=acc'.toList) (by rw[Array.length_toList];exact it.1) λj v e=>it.2 j v (by rw[<-Array.getElem?_toList];exact e)
    rw[<-e1,OL];exact this
   refine⟨.ref s.heap.objs.size,_,I.laid (t':=tk) kp (M3 _) (show cM X.prog X.w _ h' _ (.lst (qs.map kV))from⟨by rw[Nq];exact z,acc'.toList,c',rv,by simpa using e2⟩),rfl,?_⟩;have hf:=I.hok.fresh (M3 s.heap.objs.size);refine q _ _ (cf hf _) ?_;rw[mE hk];exact dq hO hf (uF qs)
 ·cases hg
end
end TG
namespace TG
open PySem PySem.Spec L2
variable[bd]
end TG
namespace TG
open PySem PySem.Spec PySem.Calls L2
variable[bd]
theorem Bb:typeLookup (.type "list") "keys"=pure none:=by rw[typeLookup_type,builtinLookup_eq_fast];kernel_rfl
theorem EG{prog:QK}{w:QJ}{A:QT}{E:QI->QU->Prop}{s:QU}{a:QL}{o:Obj}{xs:Array QI}{k:Nat}{u:Tok}{Q:QI->QU->Prop}
  (hx:s.heap.get? a=some o) (hc:o.cls=.type "list") (hdat:o.data=.seq xs k) (hd:o.dict=none) (hA:A.handled=none)
  (h:∀h' tk e,Heap.NewExcOf s.heap h' e "AttributeError"->E (.ref e) {s with heap:=h',toks:=tk}):
  QW (model prog w) A (getAttrBy (.ref a) (.str "keys" u) false) Q E s:=by
 obtain⟨c,dct,dat,sl⟩:=o;simp only at hc hdat hd;subst hc hdat hd;obtain⟨hp,g,d,tk,os⟩:=s;have hT:∀tk',(⟨hp,g,d,tk',os⟩:QU).TypeIs (.ref a) "list":=λ_=>⟨_,hx,rfl⟩
 have f1:=sub_AttributeError;have f3:=F.slot_list_getattribute.lookup;have f4:=F.slot_list_getattribute.bind (.ref a);have f5:=am_list_getattr_none;unfold getAttrBy
 repeat (any_goals (first|assumption|exact hT _|((with_reducible show QW _ _ (call (Value.builtin "list.__getattribute__") _ _) _ _ _);refine call_meets F.slot_list_getattribute (hT _) am_entry_list_getattribute (F.args_list_getattribute_2 _ _) (meets_getattribute_miss_list a xs k sl "keys" _ Bb (by decide +kernel) (by decide +kernel)) ⟨hx,hA,λh' tk' e hx'=>?_⟩)|wp_step))
 obtain⟨t',u',he⟩:=hx'.there;show QW _ _ (getattributeRaised _ _ _ _ _ _ _) _ _ _;unfold getattributeRaised
 repeat (any_goals (first|assumption|wp_step))
 exact h _ _ _ hx'.of
theorem DK{prog:QK}{w:QJ}{A:QT}{E:QI->QU->Prop}{s:QU}{a:QL}{o:Obj}{xs:Array QI}{k:Nat}{Q:Option QI->QU->Prop}
  (hx:s.heap.get? a=some o) (hc:o.cls=.type "list") (hdat:o.data=.seq xs k) (hd:o.dict=none) (hA:A.handled=none)
  (h:∀h' tk,(∀b o,s.heap.get? b=some o->h'.get? b=some o)->Q none {s with heap:=h',toks:=tk}):
  QW (model prog w) A (getAttr? (.ref a) "keys") Q E s:=by
 obtain⟨hp,g,d,tk,os⟩:=s;have f1:=sub_AttributeError;unfold getAttr? getAttrBy?;refine Q5 (wpAny_mkText ?_);refine Q5 (RZ (EG (s:=⟨hp,g,d,tk+1,os⟩) hx hc hdat hd hA λh' tk' e ne=>?_));obtain⟨ob,vs,e1,e2,_⟩:=ne.there;refine Q5 (R3 (s:=⟨h',g,d,tk',os⟩) ⟨ob,e1,e2⟩ f1 ?_);exact Q4 (h h' tk' ne.keeps)
abbrev Keeps(h0 h:QN):Prop:=∀b o,h0.get? b=some o->h.get? b=some o
section
variable{prog:QK}{w:QJ}{A:QT}{E:QI->QU->Prop}{K:Type}[DecidableEq K]{knd:HeapKind prog w K}{d:QL}{h0:QN}
def DI(knd:HeapKind prog w K)(h0:QN)(d:QL)(h:QN)(xs:List (K×QL×QI)):Prop:=
 (∃o es ep,h.get? d=some o/\o.ExactDict/\o.data=.dict es ep/\es.toList=xs.map (entryOfKey knd)/\(xs.map (·.1)).Nodup)/\∀x∈xs,∀h,Keeps h0 h->knd.is h x.1 x.2.1
theorem DI.dict{h:QN}{xs:List (K×QL×QI)}(x:DI knd h0 d h xs)(k:Keeps h0 h):h.DictOfH knd d xs:=by
 obtain⟨⟨o,es,ep,h1,h2,h3,h4,h5⟩,h6⟩:=x;exact⟨o,es,ep,h1,h2,h3,h4,λy hy=>h6 y hy h k,h5⟩
theorem DI.stay{h h':QN}{xs:List (K×QL×QI)}(x:DI knd h0 d h xs)(k:∀o,h.get? d=some o->h'.get? d=some o):DI knd h0 d h' xs:=by
 obtain⟨⟨o,es,ep,h1,r⟩,h6⟩:=x;exact⟨⟨o,es,ep,k o h1,r⟩,h6⟩
theorem mem_storedH{xs:List (K×QL×QI)}{k:K}{a:QL}{v:QI}{x:K×QL×QI}(h:x∈storedH xs k a v):(∃y∈xs,y.1=x.1/\y.2.1=x.2.1)\/(x.1=k/\x.2.1=a):=by
 unfold storedH at h;split at h
 ·obtain⟨y,hy,rfl⟩:=List.mem_map.mp h;refine .inl ⟨y,hy,?_⟩;unfold putAt;split<;>exact⟨rfl,rfl⟩
 ·rcases List.mem_append.mp h with z|z
  ·exact .inl ⟨x,z,rfl,rfl⟩
  ·rw[OU]at z;subst z;exact .inr ⟨rfl,rfl⟩
theorem DI.put{h h':QN}{xs:List (K×QL×QI)}{k:K}{a:QL}{v:QI}(x:DI knd h0 d h xs)(hk:∀h,Keeps h0 h->knd.is h k a)(dd:h'.DictOfH knd d (storedH xs k a v)):DI knd h0 d h' (storedH xs k a v):=by
 obtain⟨o,es,ep,h1,h2,h3,h4,_,h5⟩:=dd;refine⟨⟨o,es,ep,h1,h2,h3,h4,h5⟩,λy hy g kg=>?_⟩;rcases mem_storedH hy with⟨z,hz,e1,e2⟩|⟨e1,e2⟩
 ·rw[<-e1,<-e2];exact x.2 z hz g kg
 ·rw[e1,e2];exact hk g kg
theorem xo(xs:List (K×QL×QI))(k:K)(a:QL)(v:QI):(storedH xs k a v).length<=xs.length+1:=by
 unfold storedH;split
 ·rw[Nq];omega
 ·simp
theorem wY:entryFor table "dict.update.loop"=some Builtin.«dict.update.loop»:=entryFor_of_tree (by kernel_rfl)
theorem ou:plainId "dict.update.loop"=true:=by decide +kernel
theorem AC{R:Result->QU->Prop}{I:QL}{fp wr:List QL}{P:Nat->QI->Prop}{St:Nat->QN->Prop}{L:List (K×QL×QI)}(W:Walks prog w A.in1 I fp wr L.length P St)(hwr:∀b∈wr,h0.get? b=none)(hdn:h0.get? d=none)(hdf:d∉fp)
  (hn:L.length<=QO) (hu:knd.room A.in1) (hP:∀i v,P i v->∃x t,L[i]?=some x/\v=.ref t/\∀h,Keeps h0 h->h.IsTuple t #[.ref x.2.1,x.2.2]) (hK:∀x∈L,∀h,Keeps h0 h->knd.is h x.1 x.2.1) (res:QI):
  ∀(m i:Nat)(s:QU)(xs:List (K×QL×QI))(j:Int)(u:Tok),i+m=L.length->St i s.heap->Keeps h0 s.heap->DI knd h0 d s.heap xs->xs.length<=i->
  (∀h' tk,Keeps h0 h'->DI knd h0 d h' ((L.drop i).foldl (λxs x=>storedH xs x.1 x.2.1 x.2.2) xs)->R (.ok (.ret res)) {s with heap:=h',toks:=tk})->
  Rg (model prog w) A (.builtin "dict.update.loop" ⟨[.ref d,.ref I,.int j u,res],[]⟩) R s:=by
 have hdw:d∉wr:=λh=>hdf (W.sub _ h);intro m
 induction m with
 |zero=>
  intro i s xs j u hi st kp di hl hR;have hin:i=L.length:=by omega
  subst hin;refine codeAny_builtin wY ?_;rw[Around.under_plainId ou _];show QW _ A.in1 (pyNext (.ref I) >>= _) _ _ s;refine Q5 (W.done s _ _ st λh' tk hk=>?_);refine Q5 (Q4 (Q4 ?_))
  have:=hR h' tk (λb o q=>hk b o (λz=>by have:=hwr b z;rw[q]at this;cases this) (kp b o q)) (by
   rw[Of,List.foldl_nil];exact di.stay λo q=>hk d o hdw q)
  exact this
 |succ m ih=>
  intro i s xs j u hi st kp di hl hR;refine codeAny_builtin wY ?_;rw[Around.under_plainId ou _];show QW _ A.in1 (pyNext (.ref I) >>= _) _ _ s;refine Q5 (W.item i s _ _ ‹0› st λv h' tk hv st' hk=>?_);obtain⟨x,t,hx,rfl,ht⟩:=hP i v hv;have kp':Keeps h0 h':=λb o q=>hk b o (λz=>by have:=hwr b z;rw[q]at this;cases this) (kp b o q);obtain⟨o,ho,hc,n,hd⟩:=ht h' kp';have xm:x∈L:=Nn hx;refine Q5 (Ry (Q5 (wpAny_tryCatch ?_)));unfold Builtin.Dict.pairItems;refine Q5 (RB (T:="tuple") ⟨o,ho,hc⟩ ?_);rw[if_pos (by decide)];refine Q5 (RO ho hd (Q4 ?_));show QW _ _ (holding [.ref x.2.1,x.2.2] (dictSet d (.ref x.2.1) x.2.2)) _ _ _;have di':DI knd h0 d h' xs:=di.stay λo q=>hk d o hdw q;refine Ry (wpAny_dictSet_heap (s:={s with heap:=h',toks:=tk}) (hsz:=by omega) hu (hK x xm h' kp') (di'.dict kp') λh2 dd sb=>?_);have kp2:Keeps h0 h2:=λb o q=>(sb.2 b (λz=>by rw[z,hdn]at q;cases q)).trans (kp' b o q);refine Q4 ⟨plainId_quiet ou _,?_⟩;refine ih (i+1) _ (storedH xs x.1 x.2.1 x.2.2) (j+1) 0 ‹0› (W.frame _ _ _ st' λb hb o q=>(sb.2 b (λz=>hdf (by rw[<-z];exact hb))).trans q) kp2 (di'.put (hK x xm) dd) (by have:=xo xs x.1 x.2.1 x.2.2;omega) λh3 tk3 kp3 di3=>?_;refine hR h3 tk3 kp3 ?_;have e:L.drop i=x::L.drop (i+1):=by
   have hil:i<L.length:=(by omega);rw[Oc hil];rw[NY hil]at hx;rw[Option.some.inj hx]
  rw[e,Oy];exact di3
theorem rM{s:QU}{Q:QI->QU->Prop}{l:QL}{o:Obj}{items:Array QI}{n:Nat}{L:List (K×QL×QI)}(ho:s.heap.get? l=some o)(hc:o.cls=.type "list")(hd:o.data=.seq items n)(hdd:o.dict=none)(hh:A.handled=none)(hu:knd.room A.in1.in1)
  (hl:items.size=L.length) (hn:L.length<=QO) (hP:∀(i:Nat) v,items[i]?=some v->∃x t,L[i]?=some x/\v=.ref t/\s.heap.IsTuple t #[.ref x.2.1,x.2.2]) (hK:∀x∈L,∀h,Keeps s.heap h->knd.is h x.1 x.2.1)
  (hQ:∀h' tk,Keeps s.heap h'->DI knd s.heap s.heap.objs.size h' (L.foldl (λxs x=>storedH xs x.1 x.2.1 x.2.2) [])->Q (.ref s.heap.objs.size) {s with heap:=h',toks:=tk}):
  QW (model prog w) A (call (.type "dict") [.ref l]) Q E s:=by
 refine callType_codes (Q₁:=λobj s₁=>obj=.ref s.heap.objs.size/\s₁={s with heap:=s.heap.push {cls:=.type "dict",data:=.dict #[]}}) F.kt_called_dict (F.kt_typeCall_dict_1 _) F.entry_dict_init (kt_code_dict_new _ ⟨rfl,rfl⟩) ?_;rintro obj s₁ ⟨rfl,rfl⟩;have hnew:(s.heap.push {cls:=.type "dict",data:=.dict #[]}).DictOfH knd s.heap.objs.size []:=Heap.DictOfH.new s.heap;have hlt:=Qh ho;have hl1:(s.heap.push {cls:=.type "dict",data:=.dict #[]}).get? l=some o:=Qk _ ho;refine⟨hnew.typeIs,F.args_dict_init_2 _ _,?_⟩;unfold Builtin.«dict.__init__»;refine Q5 ?_;unfold Builtin.Dict.selfAndRest;refine Q5 (wpAny_notOrdered_dict hnew.typeIs ?_);show QW _ _ (pure (s.heap.objs.size,[Value.ref l])) _ _ _;refine Q4 ?_;show QW _ _ (Builtin.Dict.updateFrom "dict.__init__" s.heap.objs.size (.ref l) [] .none) _ _ _;unfold Builtin.Dict.updateFrom;refine Q5 (RB (T:="list") ⟨o,hl1,hc⟩ ?_);rw[if_pos (by decide)];refine Q5 (DK hl1 hc hd hdd hh λh1 tk1 k1=>?_);rw[if_pos (show(none:Option QI).isNone=true from rfl)];refine Q5 (RL ?_);have hd1:h1.get? s.heap.objs.size=some {cls:=.type "dict",data:=.dict #[]}:=k1 _ _ (Ql _ rfl);have hl2:h1.IsList l items:=⟨o,k1 _ _ hl1,hc,n,hd⟩
 have dlt:=Qh hd1;refine Q5 (Q6 (s:={s with heap:=h1,toks:=tk1}) hl2 ?_);refine Q4 ⟨plainId_quiet ou _,?_⟩;have W:=Walks.list (prog:=prog) (w:=w) (A:=A.in1.in1) hh h1.objs.size l (MR (NK hlt dlt)) items;rw[hl]at W;refine AC (A:=A.in1) (knd:=knd) (h0:=s.heap) (d:=s.heap.objs.size) W (λb hb=>?_) (Qi (M3 _)) (λz=>?_) hn hu (λi v hv=>?_) hK .none L.length 0 _ [] 0 0 ‹0› ?_ (λb o q=>?_) ⟨⟨_,#[],0,Qk _ hd1,⟨rfl,rfl,rfl⟩,rfl,rfl,NM⟩,λx hx=>by simp at hx⟩ (M3 _) λh' tk kp di=>?_
 ·rw[OU]at hb;subst hb;exact Qi (MT dlt)
 ·simp only[Oh,Oi,or_false]at z;rcases z with z|z
  ·exact absurd z (MR dlt)
  ·exact absurd z.symm (MR hlt)
 ·obtain⟨x,t,e1,e2,e3⟩:=hP i v hv;obtain⟨ob,q1,q2⟩:=e3;exact⟨x,t,e1,e2,λh kh=>⟨ob,kh _ _ q1,q2⟩⟩
 ·exact⟨⟨_,Ql _ rfl,rfl,rfl⟩,let ⟨ob,q1,q2⟩:=hl2;⟨ob,Qk _ q1,q2⟩⟩
 ·exact Qk _ (k1 _ _ (Qk _ q))
 ·exact⟨rfl,hQ h' tk kp di⟩
end
def xK:D->Option (List Key×D)
 |.tup [k,v]=>(jq k).map λq=>(q,v)
 |_=>none
def j3:List D->Option (List (List Key×D))
 |[]=>some []
 |d::r=>(xK d).bind λp=>(j3 r).map (p::·)
def BD(ps:List (List Key×D)):List (List Key×D):=ps.foldl (λal p=>iA al p.1 p.2) []
def vk:List D->Option D
 |[.lst xs]=>(j3 xs).bind λps=>if small ps.length then some (eT (BD ps))else none
 |_=>none
theorem C6{d:D}{p:List Key×D}(h:xK d=some p):d=.tup [.tup (p.1.map bN),p.2]:=by
 unfold xK at h;split at h
 ·rename_i k v;cases e:jq k with
  |none=>rw[e]at h;cases h
  |some q=>rw[e]at h;cases h;rw[ox e]
 ·cases h
theorem tH:∀{xs:List D}{ps:List (List Key×D)},j3 xs=some ps->xs=ps.map λp=>.tup [.tup (p.1.map bN),p.2]
 |[],_,h=>by cases h;rfl
 |d::r,ps,h=>by
  unfold j3 at h;cases e1:xK d with
  |none=>rw[e1]at h;cases h
  |some p=>
   rw[e1]at h;cases e2:j3 r with
   |none=>rw[e2]at h;cases h
   |some ps'=>rw[e2]at h;cases h;rw[C6 e1,tH e2];rfl
section
variable{X:Cx}
theorem tI{pins:List (QL×Obj)}{σ:St}{H:Hp}{s:QU}{O:List QL}(I:L2.Inv X pins σ H s):∀{ps:List (List Key×D)}{ws:List V}{its:List QI},bj X.K (hid H O) (ps.map λp=>.tup [.tup (p.1.map bN),p.2]) ws->Vals ws its->
  ∃(L:List (List Key×QL×QI))(ks:List (List Key×V)),its.length=L.length/\(∀(i:Nat)(v:QI),its[i]?=some v->∃(x:List Key×QL×QI)(t:QL),L[i]?=some x/\v=.ref t/\s.heap.IsTuple t #[.ref x.2.1,x.2.2])/\KT H ks L/\ks.map (·.1)=ps.map (·.1)/\bj X.K (hid H O) (ps.map (·.2)) (ks.map (·.2))
 |[],ws,its,h,r=>by
  rw[Nx,cY]at h;subst h;cases r;exact⟨[],[],rfl,(λi v e=>by simp at e),.nil,rfl,cY.mpr rfl⟩
 |p::ps,ws,its,h,r=>by
  rw[Ny,bM]at h;obtain⟨w,ws',rfl,h1,h2⟩:=h;cases r with
  |@cons _ u _ us ru rr=>
   obtain⟨L,ks,l1,l2,l3,l4,l5⟩:=tI I h2 rr;obtain⟨t,vs,rfl,t1,t2⟩:=cG.mp h1;obtain⟨v1,v2,rfl,d1,d2⟩:=t2.two;obtain⟨a,ks1,rfl,a1,a2⟩:=cG.mp d1;rw[iN a2]at a1;obtain⟨its',r',⟨o,q1,q2⟩,_⟩:=I.tuple (cq (K:=X.K) (aK H O) t1);obtain⟨x1,x2,rfl,rx1,rx2⟩:=vals2 r';cases rx1;obtain rfl:u=Value.ref t:=ru;refine⟨(p.1,a,x2)::L,(p.1,v2)::ks,by rw[NE,NE,l1],λi v e=>?_,.cons ⟨rfl,(aK H O) _ _ a1,rx2⟩ l3,by rw[Ny,Ny,l4],bM.mpr ⟨v2,_,rfl,d2,l5⟩⟩;cases i with
   |zero=>
    have e:Value.ref t=v:=(by simpa using e);subst e;exact⟨_,t,rfl,rfl,o,q1,q2⟩
   |succ i=>exact l2 i v (by simpa using e)
theorem wy{K:PD}{H:Hp}{H0:Hp}:∀{ps:List (List Key×D)}{ks:List (List Key×V)}{L:List (List Key×QL×QI)}{al:List (List Key×D)}{kvs:List (List Key×V)}{xs:List (List Key×QL×QI)},KT H ks L->ks.map (·.1)=ps.map (·.1)->bj K H0 (ps.map (·.2)) (ks.map (·.2))->
  KT H kvs xs->kvs.map (·.1)=al.map (·.1)->bj K H0 (al.map (·.2)) (kvs.map (·.2))->
  KT H (ks.foldl (λm p=>putK m p.1 p.2) kvs) (L.foldl (λxs x=>storedH xs x.1 x.2.1 x.2.2) xs)/\(ks.foldl (λm p=>putK m p.1 p.2) kvs).map (·.1)=(ps.foldl (λal p=>iA al p.1 p.2) al).map (·.1)/\
   bj K H0 ((ps.foldl (λal p=>iA al p.1 p.2) al).map (·.2)) ((ks.foldl (λm p=>putK m p.1 p.2) kvs).map (·.2))/\(ks.foldl (λm p=>putK m p.1 p.2) kvs).length<=kvs.length+ks.length
 |[],[],_,al,kvs,xs,.nil,_,_,h1,h2,h3=>⟨h1,h2,h3,by simp⟩
 |p::ps,q::ks,_,al,kvs,xs,.cons (b:=x) hq hr,e,d,h1,h2,h3=>by
  rw[Ny,Ny]at e;injection e with e1 e2;rw[Ny,Ny,bM]at d;obtain⟨v,vs,d0,d1,d2⟩:=d;injection d0 with d0 d0';subst d0 d0';obtain⟨y1,y2,y3⟩:=hq;have z1:=KT.put h1 q.1 y2 y3;rw[y1]at z1;have z2:=w6 h2 q.1 q.2 p.2;have z3:=y4 (k:=q.1) d1 h2 h3
  have:=wy (kvs:=putK kvs q.1 q.2) (al:=iA al q.1 p.2) (xs:=storedH xs x.1 x.2.1 x.2.2) hr e2 d2 (by rw[y1];exact z1) z2 z3
  rw[Oy,Oy,Oy,<-e1];refine⟨this.1,this.2.1,this.2.2.1,MS this.2.2.2 ?_⟩
  have:=lI kvs q.1 q.2
  rw[NE];omega
 |[],_::_,_,_,_,_,_,e,_,_,_,_=>by cases e
 |_::_,[],_,_,_,_,_,e,_,_,_,_=>by cases e
theorem yE(hc:X.calm=true)(hu:X.A.units+64<Rl):dZ X (.type "dict") (xP X.K vk):=by
 intro pins s σ H xs us Q I r ⟨O,ds,d,hO,hd,hg,q⟩;unfold vk at hg;split at hg
 ·rename_i ys;cases hp:j3 ys with
  |none=>rw[hp]at hg;cases hg
  |some ps=>
   rw[hp]at hg;obtain⟨sm,rfl⟩:=bX (show(if small ps.length then some (eT (BD ps))else none)=some d from hg);obtain⟨v,rfl,h1⟩:=hd.one;obtain⟨p,ws,rfl,g1,g2⟩:=cH.mp h1;obtain⟨u,rfl,ru⟩:=vals1 r;cases ru;obtain⟨its,rv,⟨o,n,ho,hcl,hd',hdd⟩,hz⟩:=I.list ((aK H O).seq g1);rw[tH hp]at g2;obtain⟨L,ks,l1,l2,l3,l4,l5⟩:=tI I g2 rv;have kl:ks.length=ps.length:=(by have:=congrArg List.length l4;simpa using this);have ll:ks.length=L.length:=Paired.length l3;have key:∀{ks:List (List Key×V)}{L:List (List Key×QL×QI)},KT H ks L->∀x∈L,∀h,Keeps s.heap h->(tupleKind (cN X.prog X.w)).is h x.1 x.2.1:=λ{ks L} kt=>by
    induction kt with
    |nil=>intro x hx;cases hx
    |cons hq _ ih=>
     intro x hx h kh;rcases List.mem_cons.mp hx with z|z
     ·subst z;obtain⟨e1,e2,_⟩:=hq;rw[e1]at e2;obtain⟨o,xs,n,k1,k2⟩:=pH I.hok e2;exact⟨o,xs,n,kh _ _ k1,k2⟩
     ·exact ih x z h kh
   obtain⟨f1,f2,f3,f4⟩:=wy (K:=X.K) (H:=H) (H0:=hid H O) (al:=[]) (kvs:=[]) (xs:=[]) l3 l4 l5 .nil rfl (cY.mpr rfl);have hsz:ps.length<=100000:=of_decide_eq_true sm;have sl:QO=16777216:=Rf;refine rM (knd:=tupleKind (cN X.prog X.w)) (L:=L) ho hcl hdd hd' (I.ok.hd hc) (RH (by rw[in1_units];omega)) (by simpa using l1) ‹0› (λi v e=>l2 i v (by simpa using e)) (key l3) λh' tk kp di=>?_;have hf:=I.hok.fresh (M3 s.heap.objs.size);obtain⟨⟨od,es,ep,k1,k2,k3,k4,k5⟩,_⟩:=di;have kt':KT (upd H s.heap.objs.size (.dT (ks.foldl (λm p=>putK m p.1 p.2) []))) (ks.foldl (λm p=>putK m p.1 p.2) []) (L.foldl (λxs x=>storedH xs x.1 x.2.1 x.2.2) []):=KT.keeps f1 λb ys eb=>by rw[aQ (λz=>by rw[z,hf]at eb;cases eb)];exact eb
   refine⟨.ref s.heap.objs.size,_,I.laid (t':=tk) kp (M3 _) (show cM X.prog X.w _ h' _ (.dT (ks.foldl (λm p=>putK m p.1 p.2) []))from⟨by simp only[NF]at f4;omega,beq_eq_false_iff_ne.mpr (Ne.symm (MR I.big)),_,kt',od,es,ep,k1,k2,k3,k4,k5⟩),rfl,?_⟩;refine q _ _ (cf hf _) ?_;have pO:=hO.not hf;refine J9.mpr ⟨s.heap.objs.size,_,rfl,f3.mono (vD hf),.inr (.inl ⟨_,by rw[jv pO];exact bb,Cd f2,rfl⟩)⟩
 ·cases hg
end
def o5(al:List (List Key×D))(q:List Key):Option D:=(al.find? λp=>decide (p.1=q)).map (·.2)
def Jl(ks ds:List D)(k x:D):Option D:=(oW ks ds).bind λal=>(jq k).bind λq=>some ((o5 al q).getD x)
def K8(fo fk fx:FX):FX:=λρ=>(fo ρ).bind λdd=>match dd with
 |.dct ks ds=>(fk ρ).bind λk=>(fx ρ).bind λx=>rO (Jl ks ds k x)
 |_=>un
theorem ro{K:PD}{H:Hp}{v:V}{al:List (List Key×D)}(h:cQ K H (eT al) v):
  ∃a,v=.ref a/\((∃kvs:List (List Key×V),H a=some (.dT kvs)/\kvs.map (·.1)=al.map (·.1)/\bj K H (al.map (·.2)) (kvs.map (·.2)))\/(H a=some (.dK [])/\al=[])):=by
 obtain⟨a,vs,e0,h2,h3⟩:=J9.mp h;refine⟨a,e0,?_⟩;rcases h3 with⟨kvs,e,e1,e2⟩|⟨kvs,e,e1,e2⟩|⟨kvs,o,e,e1,e2⟩
 rotate_left 2
 ·cases al with
  |nil=>cases e1
  |cons _ _=>injection e1 with e1 _;cases e1
 ·cases kvs with
  |nil=>exact .inr ⟨e,by simpa using e1⟩
  |cons p r=>
   cases al with
   |nil=>cases e1
   |cons q r'=>
    have e1:D.tup (q.1.map bN)::encK r'=bN p.1::r.map (λp=>bN p.1):=e1;injection e1 with e1 _;rcases p with⟨k,v⟩
    cases k<;>cases e1
 ·refine .inl ⟨kvs,e,?_,by rw[<-e2];exact h2⟩;exact(oR (ks:=kvs.map (·.1)) (by rw[OL];exact e1)).symm
theorem wK{K:PD}{H:Hp}(q:List Key):∀{kvs:List (List Key×V)}{al:List (List Key×D)},kvs.map (·.1)=al.map (·.1)->bj K H (al.map (·.2)) (kvs.map (·.2))->(kZ kvs q=none/\o5 al q=none)\/∃v d,kZ kvs q=some v/\o5 al q=some d/\cQ K H d v
 |[],[],_,_=>.inl ⟨rfl,rfl⟩
 |p::r,a::al,e,h=>by
  rw[Ny,Ny]at e;injection e with e1 e2;rw[Ny,Ny,bM]at h;obtain⟨v,ws,h0,h1,h2⟩:=h;injection h0 with h0 h0';subst h0 h0';by_cases z:p.1=q
  ·refine .inr ⟨p.2,a.2,lD z,?_,h1⟩;unfold o5;rw[OY (by rw[<-e1];simpa using z)];rfl
  ·have ih:=wK q e2 h2;have g:o5 (a::al) q=o5 al q:=by
    unfold o5;rw[OZ (by rw[<-e1];simpa using z)]
   rw[lZ z,g];exact ih
 |[],_::_,e,_=>by cases e
 |_::_,[],e,_=>by cases e
def yc(x y:D):Option D:=match y with
 |.dct ks ds=>nH ks ds x
 |_=>none
def iH(x y:D):Option D:=match y with
 |.dct ks ds=>(nH ks ds x).bind wu
 |_=>none
section
variable{X:Cx}
theorem Hv(hu:X.A.units+64<Rl):kY X (Rb .In) (rD X.K yc):=by
 intro pins s σ H x y u v Q I rx ry ⟨O,a,b,d,hO,ha,hb,hg,q⟩;cases b with
 |dct ks ds=>
  obtain⟨al,qk,f1,f2,f3,f4⟩:=qZ (show nH ks ds a=some d from hg);subst f1 f2 f3 f4;obtain⟨p,ey,hh⟩:=ro hb;obtain⟨c,ws,ex,g1,g2⟩:=cG.mp ha;rw[iN g2]at g1;have g1':=(aK H O) _ _ g1;subst ex ey;cases ry;rcases hh with⟨kvs,k1,k2,k3⟩|⟨k1,rfl⟩
  ·have hv:=v6 k2 qk;rw[OM]at hv;refine Jx ‹0› I (Bd.t ((aK H O) _ _ k1) g1') rx λs3 I3=>⟨.bl (kZ kvs qk).isSome,H,I3,rfl,q _ H (bE.refl H) (lG.mpr ?_)⟩
   rw[hv];rfl
  ·have k1':=(aK H O) _ _ k1;have ne:c≠p:=λz=>by rw[z,k1']at g1';cases g1'
   refine Jx (o:=kZ [] qk) ‹0› (En I k1') (Bd.t bb (by rw[aQ ne];exact g1')) rx λs3 I4=>⟨.bl false,H,?_,rfl,q _ H (bE.refl H) (lG.mpr rfl)⟩
   have I5:=G7 I4 bb;rw[xI k1']at I5;exact I5
 |_=>cases hg
theorem p5(hu:X.A.units+64<Rl):kY X (Rb .NotIn) (rD X.K iH):=by
 intro pins s σ H x y u v Q I rx ry ⟨O,a,b,d,hO,ha,hb,hg,q⟩;cases b with
 |dct ks ds=>
  have hg:(nH ks ds a).bind wu=some d:=hg;cases e0:nH ks ds a with
  |none=>rw[e0]at hg;cases hg
  |some d0=>
  rw[e0]at hg;obtain⟨al,qk,f1,f2,f3,f4⟩:=qZ e0;subst f1 f2 f3 f4;cases hg;obtain⟨p,ey,hh⟩:=ro hb;obtain⟨c,ws,ex,g1,g2⟩:=cG.mp ha;rw[iN g2]at g1;have g1':=(aK H O) _ _ g1;subst ex ey;cases ry;rcases hh with⟨kvs,k1,k2,k3⟩|⟨k1,rfl⟩
  ·have hv:=v6 k2 qk;rw[OM]at hv;refine yZ ‹0› I (Bd.t ((aK H O) _ _ k1) g1') rx λs3 I3=>⟨.bl (!(kZ kvs qk).isSome),H,I3,rfl,q _ H (bE.refl H) (lG.mpr ?_)⟩
   rw[hv];rfl
  ·have k1':=(aK H O) _ _ k1;have ne:c≠p:=λz=>by rw[z,k1']at g1';cases g1'
   refine yZ (o:=kZ [] qk) ‹0› (En I k1') (Bd.t bb (by rw[aQ ne];exact g1')) rx λs3 I4=>⟨.bl true,H,?_,rfl,q _ H (bE.refl H) (lG.mpr rfl)⟩
   have I5:=G7 I4 bb;rw[xI k1']at I5;exact I5
 |_=>cases hg
end
end TG
namespace TG
open PySem PySem.Spec L2
variable[bd]
end TG
namespace TG
open PySem PySem.Spec L2
variable[bd]
end TG
namespace TG
open PySem PySem.Spec L2
variable[bd]
end TG
namespace TG
open PySem PySem.Spec PySem.Calls L2
variable[bd]
end TG
namespace TG
open PySem PySem.Spec L2
variable[bd]
theorem dU.setN{K:PD}{Hb:Hp}{Ob O O':List QL}{H H':Hp}{ρ:av}{σ:St}(S:dU K Hb Ob O H ρ σ){i:Nat}{d d':D}(hi:ρ[i]?=some (some (.nest d)))(sub:∀b∈O,b∈O')(s:bE (hid H O) (hid H' O'))(hb:Base Hb Ob H' O')(all:dW H' O')
  (keep:∀(j:Nat) xs b,ρ[j]?=some (some (.own xs))->σ[j]?=some (some (.ref b))->H b=H' b) (new:zq K Hb Ob O' H' (ρ.set i (some (.nest d'))) σ i d'):dU K Hb Ob O' H' (ρ.set i (some (.nest d'))) σ:=by
 have own:∀(j:Nat) xs,(ρ.set i (some (.nest d')))[j]?=some (some (.own xs))->ρ[j]?=some (some (.own xs)):=λj xs e=>by
  rcases bq e with⟨_,q⟩|⟨_,q⟩
  ·cases q
  ·exact q
 refine⟨⟨λj d1 e=>?_,λj xs e=>?_,λj l xs ys a e1 e2 e3 e4=>S.env.one j l xs ys a (own j xs e1) (own l ys e2) e3 e4,all⟩,hb,λj xs a e1 e2=>S.mine j xs a (own j xs e1) e2,λj dn e=>?_⟩
 ·rcases bq e with⟨_,q⟩|⟨_,q⟩
  ·cases q
  ·obtain⟨v,q1,q2⟩:=S.env.val j d1 q;exact⟨v,q1,q2.mono s⟩
 ·obtain⟨a,q1,q2,q3⟩:=S.env.own j xs (own j xs e);exact⟨a,q1,sub a q2,q3.mono (keep j xs a (own j xs e) q1) s⟩
 ·rcases bq e with⟨hj,q⟩|⟨ne,q⟩
  ·cases q;rw[hj];exact new
  ·obtain⟨_,_,_,_,_,_,one⟩:=S.nst i d hi;exact absurd (one j dn q) ne
def HK:av->Bool
 |[]=>true
 |some (.nest _)::_=>false
 |_::ρ=>HK ρ
theorem oy:∀{ρ:av},HK ρ=true->∀(j:Nat) d,ρ[j]?≠some (some (.nest d))
 |[],_,j,d,e=>by simp at e
 |none::ρ,h,j,d,e=>by
  cases j with
  |zero=>simp at e
  |succ j=>exact oy (ρ:=ρ) h j d (by simpa using e)
 |some (.val _)::ρ,h,j,d,e=>by
  cases j with
  |zero=>simp at e
  |succ j=>exact oy (ρ:=ρ) h j d (by simpa using e)
 |some (.own _)::ρ,h,j,d,e=>by
  cases j with
  |zero=>simp at e
  |succ j=>exact oy (ρ:=ρ) h j d (by simpa using e)
 |some (.nest _)::ρ,h,j,d,e=>by cases h
theorem sC.den{K:PD}{H:Hp}{O O':List QL}(s:bE (hid H O) (hid H O')):∀{bs:List QL}{xs:List D},sC K H O bs xs->(∀b∈bs,b∉O')->bj K (hid H O') xs (bs.map .ref)
 |[],[],_,_=>cY.mpr rfl
 |b::bs,x::xs,h,n=>bM.mpr ⟨_,_,rfl,h.1.den s (n b MV),sC.den s h.2 λb' hb=>n b' (MX _ hb)⟩
 |[],_::_,h,_=>h.elim
 |_::_,[],h,_=>h.elim
theorem sC.nil{K:PD}{H:Hp}{O:List QL}{xs:List D}(h:sC K H O [] xs):xs=[]:=by
 cases xs with
 |nil=>rfl
 |cons _ _=>exact h.elim
theorem tE.den{K:PD}{H:Hp}{O O':List QL}{a:QL}{bs:List QL}{d:D}(h:tE K H O a bs d)(s:bE (hid H O) (hid H O'))(n:∀b∈a::bs,b∉O'):cQ K (hid H O') d (.ref a):=by
 obtain⟨xs,h1,h2⟩:=h;have g:=h1.den s λb hb=>n b (MX _ hb);have na:=n a MV;rcases h2 with⟨rfl,q⟩|⟨kvs,rfl,q,e⟩|⟨rfl,rfl,q⟩
 ·exact cH.mpr ⟨a,_,rfl,n0.of (by rw[jv na];exact q),g⟩
 ·exact J9.mpr ⟨a,_,rfl,g,.inr (.inl ⟨kvs,by rw[jv na];exact q,rfl,e.symm⟩)⟩
 ·have:=h1.nil
  subst this;exact J9.mpr ⟨a,_,rfl,g,.inl ⟨[],by rw[jv na];exact q,rfl,rfl⟩⟩
def frzN(i:Nat)(ρ:av):av:=match ρ[i]? with
 |some (some (.nest d))=>setV i d ρ
 |_=>ρ
theorem dU.frzN{K:PD}{Hb:Hp}{Ob O:List QL}{H:Hp}{ρ:av}{σ:St}(E:dU K Hb Ob O H ρ σ)(i:Nat):∃O',dU K Hb Ob O' H (frzN i ρ) σ:=by
 unfold TG.frzN;split
 ·rename_i d hd;obtain⟨a,bs,h1,h2,h3,h4,h5⟩:=E.nst i d hd;have sub:∀b∈O.filter (λb=>decide (b∉a::bs)),b∈O:=λb hb=>(List.mem_filter.mp hb).1;have s:bE (hid H O) (hid H (O.filter λb=>decide (b∉a::bs))):=iY sub;have na:∀b∈a::bs,b∉O.filter λb=>decide (b∉a::bs):=λb hb z=>(of_decide_eq_true (List.mem_filter.mp z).2) hb;have bk:∀(l:Nat) x,(TG.setV i d ρ)[l]?=some (some x)->(∀d,x≠.val d)->ρ[l]?=some (some x):=λl x e nv=>by
   rcases bq e with⟨_,q⟩|⟨_,q⟩
   ·cases q;exact absurd rfl (nv _)
   ·exact q
  refine⟨O.filter λb=>decide (b∉a::bs),⟨λj d' e=>?_,λj xs e=>?_,λj l xs ys b e1 e2 e3 e4=>E.env.one j l xs ys b (bk j _ e1 (λ_ z=>nomatch z)) (bk l _ e2 (λ_ z=>nomatch z)) e3 e4,⟨E.env.all.1,λb hb=>E.env.all.2 b (sub b hb)⟩⟩,⟨E.base.same,λb hb=>?_,λb hb=>E.base.new b (sub b hb)⟩,λj xs b e1 e2=>E.mine j xs b (bk j _ e1 (λ_ z=>nomatch z)) e2,λj dn e=>?_⟩
  ·rcases bq e with⟨hj,q⟩|⟨ne,q⟩
   ·cases q;rw[hj];exact⟨.ref a,h1,h2.den s na⟩
   ·obtain⟨w,q1,q2⟩:=E.env.val j d' q;exact⟨w,q1,q2.mono s⟩
  ·obtain⟨b,q1,q2,q3⟩:=E.env.own j xs (bk j _ e (λ_ z=>nomatch z));refine⟨b,q1,List.mem_filter.mpr ⟨q2,decide_eq_true λz=>?_⟩,q3.mono rfl s⟩;exact(h4 b z).2.2.2 j xs (bk j _ e (λ_ z=>nomatch z)) q1
  ·exact List.mem_filter.mpr ⟨E.base.sub b hb,decide_eq_true λz=>(h4 b z).2.2.1 hb⟩
  ·have q:=bk j _ e (λ_ z=>nomatch z);have hj:=h5 j dn q;subst hj;rcases bq e with⟨_,q⟩|⟨ne,_⟩
   ·cases q
   ·exact absurd rfl ne
 ·exact⟨O,E⟩
def xN(i:Nat)(F:cx):cx:=λk ρ=>F k (frzN i ρ)
theorem Jt{X:Cx}{st:List QZ}{F:cx}(i:Nat)(h:xO X st F):xO X st (xN i F):=λHb Ob=>AY.weak (h Hb Ob) λE σ H ⟨O,ρ,k,r,S,hF,hk⟩=>by
 obtain⟨O',S'⟩:=S.frzN i;exact⟨O',TG.frzN i ρ,k,r,S',hF,hk⟩
end TG
namespace TG
open PySem PySem.Spec L2
variable[bd]
theorem sC.imp{K:PD}{H H':Hp}{O O':List QL}:∀{bs:List QL}{xs:List D},sC K H O bs xs->(∀c∈bs,∀x,eO K H O c x->eO K H' O' c x)->sC K H' O' bs xs
 |[],[],_,_=>trivial
 |b::bs,x::xs,h,f=>⟨f b MV x h.1,sC.imp h.2 λc hc=>f c (MX _ hc)⟩
 |[],_::_,h,_=>h.elim
 |_::_,[],h,_=>h.elim
end TG
namespace TG
open PySem PySem.Spec L2
variable[bd]
abbrev Ki(al:List (List Key×D)):D:=.dct (.non::encK al) (al.map (·.2))
theorem yS{α β:Type}{R:α->β->Prop}:∀{xs:List α}{ys:List β},QM R xs ys->∀{i:Nat}{x:α},xs[i]?=some x->∃y,ys[i]?=some y/\R x y:=λh=>by
 induction h with
 |nil=>intro i x e;simp at e
 |cons hq _ ih=>
  intro i x e;cases i with
  |zero=>rw[Oj]at e;cases e;exact⟨_,rfl,hq⟩
  |succ i=>rw[Ol]at e ⊢;exact ih e
theorem zE{K:PD}{H:Hp}:∀q:List Key,bj K H (q.map bN) (q.map kV)
 |[]=>cY.mpr rfl
 |k::q=>bM.mpr ⟨kV k,_,rfl,by cases k with|inl i=>exact fj.mpr rfl|inr x=>exact fh.mpr rfl,zE q⟩
abbrev xG(p:List Key×D):D:=.tup [.tup (p.1.map bN),p.2]
theorem BL{K:PD}{H:Hp}{v:V}{al:List (List Key×D)}(h:cQ K H (Ki al) v):∃a o kvs,v=.ref a/\H a=some (.frz o (.dT kvs))/\kvs.map (·.1)=al.map (·.1)/\bj K H (al.map (·.2)) (kvs.map (·.2)):=by
 obtain⟨a,vs,e0,h2,h3⟩:=J9.mp h;rcases h3 with⟨kvs,e,e1,e2⟩|⟨kvs,e,e1,e2⟩|⟨kvs,o,e,e1,e2⟩
 ·cases kvs with
  |nil=>cases e1
  |cons p r=>
   injection e1 with e1 _;rcases p with⟨k,v⟩
   cases k<;>cases e1
 ·cases kvs with
  |nil=>cases e1
  |cons p r=>injection e1 with e1 _;cases e1
 ·injection e1 with _ e1;subst e2;exact⟨a,o,kvs,e0,e,(oR (ks:=kvs.map (·.1)) (by rw[OL];exact e1)).symm,h2⟩
end TG
namespace TG
open PySem PySem.Spec L2
section
variable{prog:QK}{w:QJ}{A:QT}{E:QI->QU->Prop}{s:QU}{it d:QL}{i ep:Nat}{o:Obj}{es:Array DictEntry}
theorem Bf{Q:QI->QU->Prop}(hd:(d==sysModules)=false)(ho:s.heap.get? d=some o)(hx:o.ExactDict)(hdat:o.data=.dict es ep)
  (hQ:Q (.ref s.heap.objs.size) {s with heap:=s.heap.push {cls:=.type "dict_keyiterator",data:=.fields #[.ref d,.int 0 0,.int es.size 0,.int ep 0]}}):QW (model prog w) A (pyIter (.ref d)) Q E s:=by
 have hT:s.TypeIs (.ref d) "dict":=⟨o,ho,hx.1⟩
 refine wpAny_pyIter_slot hT F.slot_dict_iter (RA F.slot_dict_iter hT F.entry_dict_iter ?_ (F.args_dict_iter_1 _));unfold Builtin.«dict.__iter__»;refine Q5 ?_;unfold Builtin.Dict.dictSlotNone;refine Q5 (wpAny_notOrdered_dict hT ?_);show QW _ _ (pure (Value.ref d)) _ _ s;refine Q4 ?_;show QW _ _ (Builtin.Dict.showsAll d >>= _) _ _ s;unfold Builtin.Dict.showsAll;rw[if_neg (by rw[hd];exact M9)];refine Q5 (Q4 (Q5 (Sd ho hdat (Q5 (Se ho hdat ?_)))));refine Q5 (RC (Q4 ⟨_,rfl,"dict_keyiterator",_,⟨_,Ql _ rfl,rfl⟩,F.slot_dict_keyiterator_next.lookup,?_⟩));simpa [rawInt]using hQ
theorem AW{Q:Option QI->QU->Prop}(hit:s.heap.IsKeyIter it d i es.size ep)(hod:s.heap.get? d=some o)(hdd:o.data=.dict es ep)(hlt:i<es.size)
  (hQ:∀h',h'.IsKeyIter it d (i+1) es.size ep->Qj it s.heap h'->Q (some es[i].key) {s with heap:=h'}):QW (model prog w) A (pyNext (.ref it)) Q E s:=by
 obtain⟨oi,ho,hc,hd⟩:=id hit;unfold pyNext;refine Q5 (RZ (Rz (name:=Str.ofString "__next__") hit.typeIs F.slot_dict_keyiterator_next (RA F.slot_dict_keyiterator_next hit.typeIs F.entry_dict_keyiterator_next ?_ (F.args_dict_keyiterator_next_1 _))));refine Q5 (Q4 (Q5 (Q5 ?_)));first|refine Q5 (Sf hit.typeIs (Q4 ?_))|refine Q5 (Sg hit.typeIs (Q4 ?_))
 refine Q5 (wpAny_fieldsOf ho hd ?_);have hown:Builtin.Dict_items.ownsTuple "dict_keyiterator"=false:=by decide
 simp only[hown,NQ,if_false];show QW _ _ (if(Value.ref d==Value.none)=true then _ else _) _ _ s;rw[if_neg (show¬((Value.ref d==Value.none)=true)from M9)];refine Q5 (Q4 (Q5 (Sd hod hdd ?_)));rw[if_neg (by simp)];refine Q5 (Q4 (Q5 (Se hod hdd ?_)));rw[if_neg (by simp)];refine Q4 ?_;simp only[show¬((i:Int)<0)from by omega,if_false,Nr,Array.getElem?_eq_getElem hlt];refine Q5 ?_;first|refine Q5 (Sf hit.typeIs (Q4 ?_))|refine Q5 (Sg hit.typeIs (Q4 ?_))
 refine Q5 (wpAny_isOneOf_keyiter hit.typeIs ?_);show QW _ _ (setField (.ref it) 1 (rawInt ((i:Int)+1)) >>= _) _ _ s;refine Q5 (RP ho hd (by simp) ?_);have hit':(s.heap.update it (Obj.mapFields (·.setIfInBounds 1 (rawInt ((i:Int)+1))))).IsKeyIter it d (i+1) es.size ep:=⟨_,Qn _ ho (Obj.isFreed_of_fields (Obj.data_mapFields hd _)),(Obj.cls_mapFields ..).trans hc,by rw[Obj.data_mapFields hd];simp[rawInt]⟩
 refine Q5 (Ry (Q5 (wpAny_isOneOf_keyiter (s:={s with heap:=s.heap.update it (Obj.mapFields (·.setIfInBounds 1 (rawInt ((i:Int)+1))))}) hit'.typeIs ?_)));show QW _ _ (pure es[i].key) _ _ _;exact Q4 (Q4 ⟨_,rfl,Q4 (hQ _ hit' (Heap.SameBut.update ..))⟩)
theorem Ca{Q:Option QI->QU->Prop}(hh:A.handled=none)(hit:s.heap.IsKeyIter it d i es.size ep)(hod:s.heap.get? d=some o)(hdd:o.data=.dict es ep)(hge:es.size<=i)(hQ:∀h',Heap.ExtBut it s.heap h'->Q none {s with heap:=h'}):QW (model prog w) A (pyNext (.ref it)) Q E s:=by
 obtain⟨oi,ho,hc,hd⟩:=id hit;unfold pyNext;refine Q5 (RZ (Rz (name:=Str.ofString "__next__") hit.typeIs F.slot_dict_keyiterator_next (RA F.slot_dict_keyiterator_next hit.typeIs F.entry_dict_keyiterator_next ?_ (F.args_dict_keyiterator_next_1 _))));refine Q5 (Q4 (Q5 (Q5 ?_)));first|refine Q5 (Sf hit.typeIs (Q4 ?_))|refine Q5 (Sg hit.typeIs (Q4 ?_))
 refine Q5 (wpAny_fieldsOf ho hd ?_);have hown:Builtin.Dict_items.ownsTuple "dict_keyiterator"=false:=by decide
 simp only[hown,NQ,if_false];show QW _ _ (if(Value.ref d==Value.none)=true then _ else _) _ _ s;rw[if_neg (show¬((Value.ref d==Value.none)=true)from M9)];refine Q5 (Q4 (Q5 (Sd hod hdd ?_)));rw[if_neg (by simp)];refine Q5 (Q4 (Q5 (Se hod hdd ?_)));rw[if_neg (by simp)];refine Q4 ?_;simp only[show¬((i:Int)<0)from by omega,if_false,Nr,Array.getElem?_eq_none hge];refine Q5 ?_;first|refine Q5 (Sf hit.typeIs (Q4 ?_))|refine Q5 (Sg hit.typeIs (Q4 ?_))
 show QW _ _ (setField (.ref it) 0 .none >>= _) _ _ s;refine Q5 (RP ho hd (by simp) ?_);show QW _ _ (newExc (.type "StopIteration") [] >>= _) _ _ _;refine Q5 ?_;simp only[newExc,newTuple];refine Q5 (RC ?_ (by size_fits));refine Q5 (m:=firstArgMember _ _) (wpAny_of_eq (a:=Value.none) (by first|rfl|(simp only[firstArgMember];rfl)) ?_);refine RC ?_ (by size_fits);simp only[raiseNew];refine Q5 (wpAny_handled ?_);rw[show A.in1.handled=none from hh];refine Q5 (Q4 (wpAny_throw ?_));refine Q5 (R3 (T:="StopIteration") (b:=true) ⟨_,Ql _ rfl,rfl⟩ isSubtype_stop ?_);exact Q4 (hQ _ (((Heap.SameBut.update ..).extBut.push _).push _))
def Gx(d:QL)(o:Obj)(es:Array DictEntry)(ep:Nat)(h:QN):Prop:=h.get? d=some o/\o.ExactDict/\o.data=.dict es ep
theorem yC(hh:A.handled=none)(I:QL)(hne:d≠I):Walks prog w A I [I,d] [I] es.size (λi v=>∃e,es[i]?=some e/\v=e.key) (λi h=>h.IsKeyIter I d i es.size ep/\Gx d o es ep h)where
 sub:=λb hb=>by simp at hb;simp[hb]
 frame:=λ_ _ _ st hk=>⟨st.1.at λo e=>hk I (by simp) o e,hk d (by simp) _ st.2.1,st.2.2⟩
 item:=λi s Q E hi st hQ=>AW st.1 st.2.1 st.2.2.2 hi λh' hit' hs'=>hQ _ h' s.toks ⟨es[i],by simp[hi],rfl⟩ ⟨hit',(hs'.2 d hne).trans st.2.1,st.2.2⟩ λb o hb e=>hs'.extBut b o (λh=>hb (by simp[h])) e
 done:=λs Q E st hQ=>Ca hh st.1 st.2.1 st.2.2.2 (M3 _) λh' he'=>hQ h' s.toks λb o hb e=>he' b o (λh=>hb (by simp[h])) e
 self:=λ_ _ _ _ st hQ=>wpAny_pyIter_keyiter st.1 hQ
theorem BA(lo:(d==sysModules)=false):PySem.W.KdlSrc prog w "dict" d d es.size (λi v=>∃e,es[i]?=some e/\v=e.key) (Gx d o es ep)where
 type:=λ_ hm=>⟨o,hm.1,hm.2.1.1⟩
 there:=λ_ hm=>⟨Qh hm.1,Qh hm.1⟩
 keep:=λ_ _ hm hk=>⟨hk d (.inl rfl) o hm.1,hm.2⟩
 notList:=by decide
 notTuple:=by decide
 hint:=λ_ _ _ _ hm hq=>PySem.W.kdl_hint_dict ⟨o,hm.1,hm.2.1.1⟩ hq
 iter:=λ_ _ hh hm=>⟨_,_,(λ_ _ hq=>Bf lo hm.1 hm.2.1 hm.2.2 hq),yC (ep:=ep) (o:=o) hh _ (MR (Qh hm.1)),⟨⟨_,Ql _ rfl,rfl,rfl⟩,Qk _ hm.1,hm.2⟩⟩
end
variable[bd]
def DB:List D->List D->Option (List (List Key×D))
 |.non::ks,ds=>oW ks ds
 |ks,ds=>oW ks ds
theorem y8{K:PD}{H:Hp}{v:V}{ks ds:List D}{al:List (List Key×D)}(h:cQ K H (.dct ks ds) v)(e:DB ks ds=some al):
  ∃a,v=.ref a/\((∃kvs:List (List Key×V),Rd H a (.dT kvs)/\kvs.map (·.1)=al.map (·.1)/\bj K H (al.map (·.2)) (kvs.map (·.2)))\/(H a=some (.dK [])/\al=[])):=by
 unfold DB at e;split at e
 ·obtain⟨f1,f2⟩:=oN e;subst f1 f2;obtain⟨a,o,kvs,q1,q2,q3,q4⟩:=BL h;exact⟨a,q1,.inl ⟨kvs,.inr ⟨o,q2⟩,q3,q4⟩⟩
 ·obtain⟨f1,f2⟩:=oN e;subst f1 f2;obtain⟨a,q1,q2⟩:=ro h;rcases q2 with⟨kvs,q2,q3⟩|q2
  ·exact⟨a,q1,.inl ⟨kvs,.inl q2,q3⟩⟩
  ·exact⟨a,q1,.inr q2⟩
section
variable{X:Cx}
def o0:List D->Option D
 |[.dct ks ds]=>(DB ks ds).bind λal=>some (.lst (encK al))
 |_=>none
theorem Ci{pins:List (QL×Obj)}{σ:St}{H:Hp}{s:QU}(I:Inv X pins σ H s){a:QL}{kvs:List (List Key×V)}(e:Rd H a (.dT kvs)):kvs.length<=QO/\(a==sysModules)=false/\∃o es ep,Gx a o es ep s.heap/\es.size=kvs.length/\∀(i:Nat) u,es[i]?=some u->∃b q,u.key=.ref b/\kvs[i]?.map (·.1)=some q/\H b=some (.tup (q.map kV)):=by
 obtain⟨z,hd,xs,rel,o,es,ep,h1,h2,h3,h4,_⟩:=uQ I.hok e;have hl:es.size=kvs.length:=by rw[<-Array.length_toList,h4,Nq];exact(Paired.length rel).symm
 refine⟨z,hd,o,es,ep,⟨h1,h2,h3⟩,hl,λi u eu=>?_⟩;have hi:i<kvs.length:=by
  have:=(Array.getElem?_eq_some_iff.mp eu).1
  omega
 obtain⟨x,ex,f1,f2,f3⟩:=yS rel (i:=i) (x:=kvs[i]) (by simp[hi])
 have:es.toList[i]?=some (entryOfKey (tupleKind (cN X.prog X.w)) x):=by rw[h4,Nm,ex];rfl
 rw[Array.getElem?_toList,eu]at this;cases this;exact⟨x.2.1,kvs[i].1,rfl,by simp[hi],f2⟩
theorem yN(hc:X.calm=true):dZ X (.type "list") (xP X.K o0):=by
 intro pins s σ H xs us Q I r ⟨O,ds,d,hO,hd,hg,q⟩;unfold o0 at hg;split at hg
 ·rename_i ks vs0;cases hk:DB ks vs0 with
  |none=>rw[hk]at hg;cases hg
  |some al=>
   rw[hk]at hg;cases hg;obtain⟨v,ev,h1⟩:=hd.one;subst ev;obtain⟨a,ea,hh⟩:=y8 h1 hk;subst ea;obtain⟨u,rfl,ru⟩:=vals1 r;cases ru;have fin:∀(H0:Hp)(kvs:List (List Key×V)),Inv X pins σ H0 s->Rd H0 a (.dT kvs)->kvs.map (·.1)=al.map (·.1)->(∀b ys,H0 b=some (.tup ys)->H b=some (.tup ys))->QW (model X.prog X.w) X.A (call (.type "list") [.ref a]) (EP X pins σ Q) X.xe s:=λH0 kvs I0 hr hk2 ht=>by
    obtain⟨z,hs,o,es,ep,raw,hsz,hkey⟩:=Ci I0 hr;have hl:al.length=kvs.length:=(by have:=congrArg List.length hk2;simpa using this.symm);refine Qd (BA hs) (I.ok.hd hc) raw (by rw[hsz];exact z) λh' tk acc' c' kp e2 it=>?_;have key:∃ws:List V,Vals ws acc'.toList/\bj X.K (hid H O) (encK al) ws:=by
     have hlen:acc'.toList.length=al.length:=(by rw[Array.length_toList,it.1,hsz,hl]);have each:∀(j:Nat)(u:QI),acc'.toList[j]?=some u->∃b q,u=.ref b/\al[j]?.map (·.1)=some q/\H b=some (.tup (q.map kV)):=λj u e=>by
      obtain⟨en,e3,e4⟩:=it.2 j u (by rw[<-Array.getElem?_toList];exact e);obtain⟨b,q,w1,w2,w3⟩:=hkey j en e3;refine⟨b,q,by rw[e4,w1],?_,ht _ _ w3⟩
      have:=congrArg (λl=>l[j]?) hk2
      simp only[Nm]at this;rw[<-this];exact w2
     clear it e2;generalize acc'.toList=us at hlen each;clear hk hl hk2 h1 hh q
     induction us generalizing al with
     |nil=>
      cases al with
      |nil=>exact⟨[],.nil,cY.mpr rfl⟩
      |cons _ _=>cases hlen
     |cons u us ih=>
      cases al with
      |nil=>cases hlen
      |cons p al=>
       obtain⟨ws,w1,w2⟩:=ih (al:=al) (by simpa using hlen) λj u e=>by
        have:=each (j+1) u (by rw[Ol];exact e)
        rw[Ol]at this;exact this
       obtain⟨b,q,e1,e2,e3⟩:=each 0 u rfl;cases e2;have bO:b∉O:=λz=>by
        obtain⟨u',q1,q2⟩:=hO.2 b z;rw[e3]at q1;cases q1;exact q2
       exact⟨.ref b::ws,.cons (by rw[e1];rfl) w1,bM.mpr ⟨.ref b,ws,rfl,cG.mpr ⟨b,_,rfl,by rw[jv bO];exact e3,zE p.1⟩,w2⟩⟩
    obtain⟨ws,rv,dn⟩:=key;have wl:ws.length<=QO:=(by rw[<-dn.length,Nq,hl];exact z);refine⟨.ref s.heap.objs.size,_,I.laid (t':=tk) kp (M3 _) (show cM X.prog X.w _ h' _ (.lst ws)from⟨wl,acc'.toList,c',rv,by simpa using e2⟩),rfl,?_⟩;have hf:=I.hok.fresh (M3 s.heap.objs.size);exact q _ _ (cf hf _) (dq hO hf dn)
   rcases hh with⟨kvs,hr,e1,_⟩|⟨hr,e1⟩
   ·refine fin H kvs I ?_ e1 λ_ _ z=>z;rcases hr with hr|⟨o,hr⟩
    ·exact .inl ((aK H O) _ _ hr)
    ·exact .inr ⟨o,(aK H O) _ _ hr⟩
   ·have ha:=(aK H O) _ _ hr;refine fin _ [] (En I ha) (.inl bb) (by rw[e1];rfl) λb ys eb=>?_;by_cases z:b=a
    ·rw[z,bb]at eb;cases eb
    ·rw[aQ z]at eb;exact eb
 ·cases hg
end
end TG
namespace TG
open PySem PySem.Spec PySem.Calls L2
variable[bd]
def rL(dd k:D):Option D:=match dd with
 |.dct ks ds=>(DB ks ds).bind λal=>(jq k).bind λq=>o5 al q
 |_=>none
theorem Ha{H:Hp}{O:List QL}{a:QL}{u:HO}(h:Rd (hid H O) a u):Rd H a u:=by
 rcases h with h|⟨o,h⟩
 ·exact .inl ((aK H O) _ _ h)
 ·exact .inr ⟨o,(aK H O) _ _ h⟩
section
variable{X:Cx}
theorem K3{o e:QX}{fo fk:FX}{pos:Pos}(hu:X.A.units+64<Rl)(ho:FE X o fo)(hi:FE X e fk)(hs:EL e):FE X (.Subscript o e pos) (f2 rL fo fk):=
 PE.weak (DW ‹0› ho hi hs) λσ H Q ⟨O,ρ,E,hF⟩=>⟨O,ρ,E,(i7.bind hF).imp λdd hF v H1 s1 d1=>⟨O,ρ,E.same s1,((i7.bind hF).mono s1).imp λk hF y H2 s2 d2=>by
  obtain⟨d,hg,q⟩:=i7.rO hF;cases dd with
  |dct ks ds=>
   have hg:(DB ks ds).bind (λal=>(jq k).bind λq=>o5 al q)=some d:=hg;cases hk:DB ks ds with
   |none=>rw[hk]at hg;cases hg
   |some al=>
    rw[hk]at hg;cases ht:jq k with
    |none=>rw[ht]at hg;cases hg
    |some qk=>
     rw[ht]at hg;have hg:o5 al qk=some d:=hg;obtain⟨a,ea,hh⟩:=y8 (d1.mono (cy s2)) hk;rw[ox ht]at d2;obtain⟨b,ws,eb,g1,g2⟩:=cG.mp d2;rw[iN g2]at g1;rcases hh with⟨kvs,hr,e1,e2⟩|⟨_,rfl⟩
     ·rcases wK qk e1 e2 with⟨_,z2⟩|⟨w,d',z1,z2,z3⟩
      ·rw[z2]at hg;cases hg
      ·rw[z2]at hg;cases hg;exact⟨a,w,ea,by rw[<-z1];exact .inr ⟨kvs,qk,b,Ha hr,eb,(aK H2 O) _ _ g1,rfl⟩,q w H2 (s1.trans s2) z3⟩
     ·cases hg
  |_=>cases hg⟩⟩
end
end TG
namespace L2
open PySem PySem.Spec PyProof.Rows
end L2
namespace TG
open PySem PySem.Spec L2
variable[bd]
end TG
namespace TG
open PySem PySem.Spec L2
variable[bd]
section
variable{K:PD}{Hb H:Hp}{Ob O:List QL}{ρ:av}{σ:St}
theorem dU.hide(E:dU K Hb Ob O H ρ σ){p:QL}{o:HO}(m:sM o)(hp:H p=none):dU K Hb Ob (p::O) (upd H p o) ρ σ:=
 ⟨E.env.hideNew m hp,⟨E.base.same.trans (cf hp o),fun a ha=>MX _ (E.base.sub a ha),fun a ha=>by
  rcases List.mem_cons.mp ha with z|z
  ·rw[z];exact .inr (E.base.same.free hp)
  ·exact E.base.new a z⟩,E.mine,λj d q=>(E.nst j d q).to rfl (rF hp) (λb q1 q2 q3 q4 ⟨o',ho⟩=>⟨aQ (bg ho hp),MX _ q1,q2,q4⟩) λl d' w=>⟨d',w⟩⟩
theorem dU.new(E:dU K Hb Ob O H ρ σ){p:QL}(hp:H p=none):Hb p=none/\p∉Ob/\∀(j:Nat) d',ρ[j]?=some (some (.own d'))->σ[j]?≠some (some (.ref p)):=by
 have pO:=E.env.all.not hp;refine⟨E.base.same.free hp,λz=>pO (E.base.sub p z),λj d' w z=>?_⟩;obtain⟨c,e1,e2,_⟩:=E.env.own j d' w;rw[z]at e1;cases e1;exact pO e2
theorem dU.setL(E:dU K Hb Ob O H ρ σ){i:Nat}(hi:i<σ.length)(hn:HK ρ=true){p:QL}{bs:List QL}{d:D}(new:tE K H O p bs d)(nd:(p::bs).Nodup)(hb:∀b∈p::bs,b∈O/\Hb b=none/\b∉Ob/\∀(j:Nat) d',ρ[j]?=some (some (.own d'))->σ[j]?≠some (some (.ref b))):
  dU K Hb Ob O H (ρ.set i (some (.nest d))) (σ.set i (some (.ref p))):=by
 have key:∀(j:Nat)(x:S),(ρ.set i (some (.nest d)))[j]?=some (some x)->(j=i/\x=.nest d)\/(j≠i/\ρ[j]?=some (some x)/\(σ.set i (some (.ref p)))[j]?=σ[j]?):=λj x e=>by
  rcases bq e with⟨hj,q⟩|⟨ne,q⟩
  ·cases q;exact .inl ⟨hj,rfl⟩
  ·exact .inr ⟨ne,q,M0 (Ne.symm ne)⟩
 have own:∀(j:Nat) xs,(ρ.set i (some (.nest d)))[j]?=some (some (.own xs))->ρ[j]?=some (some (.own xs))/\(σ.set i (some (.ref p)))[j]?=σ[j]?:=λj xs e=>by
  rcases key j _ e with⟨_,q⟩|⟨_,q⟩
  ·cases q
  ·exact q
 refine⟨⟨λj d1 e=>?_,λj xs e=>?_,λj l xs ys a e1 e2 e3 e4=>?_,E.env.all⟩,E.base,λj xs a e1 e2=>?_,λj dn e=>?_⟩
 ·rcases key j _ e with⟨_,q⟩|⟨_,q,w⟩
  ·cases q
  ·rw[w];exact E.env.val j d1 q
 ·obtain⟨q,w⟩:=own j xs e;rw[w];exact E.env.own j xs q
 ·obtain⟨q1,w1⟩:=own j xs e1;obtain⟨q2,w2⟩:=own l ys e2;rw[w1]at e3;rw[w2]at e4;exact E.env.one j l xs ys a q1 q2 e3 e4
 ·obtain⟨q,w⟩:=own j xs e1;rw[w]at e2;exact E.mine j xs a q e2
 ·rcases key j _ e with⟨hj,q⟩|⟨_,q,_⟩
  ·cases q;subst hj;refine⟨p,bs,MZ hi,new,nd,λb h=>?_,λl d' w=>?_⟩
   ·obtain⟨w1,w2,w3,w4⟩:=hb b h;exact⟨w1,w2,w3,λl d' w=>by obtain⟨q,z⟩:=own l d' w;rw[z];exact w4 l d' q⟩
   ·rcases key l _ w with⟨hl,_⟩|⟨_,q,_⟩
    ·exact hl
    ·exact absurd q (oy hn l d')
  ·exact absurd q (oy hn j dn)
theorem we:∀{bs:List QL}{xs:List D}{c:Nat}{x:D},sC K H O bs xs->bs.Nodup->xs[c]?=some x->∃b,bs[c]?=some b/\eO K H O b x/\∀(H':Hp)(O':List QL)(x':D),(∀c'∈bs,c'≠b->∀z,eO K H O c' z->eO K H' O' c' z)->eO K H' O' b x'->sC K H' O' bs (xs.set c x')
 |b::bs,y::xs,0,x,h,nd,e=>by
  cases e;exact⟨b,rfl,h.1,λH' O' x' f n=>⟨n,h.2.imp λc hc=>f c (MX _ hc) λz=>(List.nodup_cons.mp nd).1 (by rw[<-z];exact hc)⟩⟩
 |b::bs,y::xs,c+1,x,h,nd,e=>by
  obtain⟨b',q1,q2,q3⟩:=we h.2 (List.nodup_cons.mp nd).2 (show xs[c]?=some x from e);exact⟨b',q1,q2,λH' O' x' f n=>⟨f b MV (λz=>(List.nodup_cons.mp nd).1 (by rw[z];exact Nn q1)) _ h.1,q3 H' O' x' (λc' hc=>f c' (MX _ hc)) n⟩⟩
 |[],_::_,_,_,h,_,_=>h.elim
 |[],[],_,_,_,_,e=>by simp at e
end
def o6(i:Nat):cx:=λk ρ=>if HK ρ then k.nx (ρ.set i (some (.nest (.lst [.lst [],.lst []]))))else un
def qe(i c:Nat)(f:FX):cx:=λk ρ=>match ρ[i]? with
 |some (some (.nest (.lst xs)))=>(match xs[c]? with
  |some (.lst ys)=>(Cu (f ρ)).bind λv=>if small (ys.length+1)then k.nx (ρ.set i (some (.nest (.lst (xs.set c (.lst (ys++[v])))))))else un
  |_=>un)
 |_=>un
theorem yF{i c:Nat}{f:FX}{k:Ks}{ρ:av}{r:R D}(h:qe i c f k ρ=r)(hr:r≠un):∃xs ys v,ρ[i]?=some (some (.nest (.lst xs)))/\xs[c]?=some (.lst ys)/\f ρ=.ok v/\small (ys.length+1)=true/\k.nx (ρ.set i (some (.nest (.lst (xs.set c (.lst (ys++[v])))))) )=r:=by
 unfold qe at h;split at h
 ·rename_i xs hi;split at h
  ·rename_i ys hc;cases e1:f ρ with
   |error z=>rw[e1]at h;exact absurd h.symm hr
   |ok v=>
    rw[e1]at h;have h:(if small (ys.length+1)then k.nx (ρ.set i (some (.nest (.lst (xs.set c (.lst (ys++[v])))))))else un)=r:=h;cases hs:small (ys.length+1)with
    |false=>rw[hs]at h;exact absurd h.symm hr
    |true=>rw[hs]at h;exact⟨xs,ys,v,hi,hc,rfl,hs,h⟩
  ·exact absurd h.symm hr
 ·exact absurd h.symm hr
section
variable{X:Cx}
theorem JI{i:Nat}{x:Str}{l1 l2 l3 pos pos':Pos}(hN:X.N.Nodup)(hi:X.N[i]?=some x)(hx:Loc X.env.scope x)(hs:swapsWith (.List [.List [] l1,.List [] l2] l3) (some (.Name x pos')) pos.line X.env=pure false:=by rfl)(hf:X.fn x=true\/X.env.scope.names.lookup x=some .local:=by first|exact .inl rfl|exact .inr rfl|assumption):
  FS X (.Assign [.Name x pos'] (.List [.List [] l1,.List [] l2] l3) pos) (o6 i):=λHb Ob pins s σ H E I ⟨O,ρ,k,r,S,hF,hk⟩=>by
 unfold o6 at hF;cases hn:HK ρ with
 |false=>rw[hn]at hF;exact absurd hF.symm hk.ne
 |true=>
  rw[hn]at hF;refine yu hN hi hx (sG (mC (sG pI) (mC (sG pI) pI))) hs hf pins s σ H E I ?_;refine⟨Nc _,λp1 h1=>⟨Nc _,λp2 h2=>⟨by show 2<=QO;decide,λp hp=>?_⟩⟩⟩;have S1:=S.hide (o:=.lst []) trivial h1;have S2:=S1.hide (o:=.lst []) trivial h2;have S3:=S2.hide (o:=.lst [.ref p1,.ref p2]) trivial hp;obtain⟨a1,a2,a3⟩:=S.new h1;obtain⟨b1,b2,b3⟩:=S1.new h2;obtain⟨c1,c2,c3⟩:=S2.new hp;have n12:p1≠p2:=bg bb h2;have n1:p1≠p:=bg (by rw[aQ n12];exact bb) hp;have n2:p2≠p:=bg bb hp;refine hk.nx _ _ _ _ (S3.setL (by rw[I.len];exact(List.getElem?_eq_some_iff.mp hi).1) hn (bs:=[p1,p2]) ⟨[.lst [],.lst []],⟨⟨_,[],by rw[aQ n1,aQ n12];exact bb,rfl,cY.mpr rfl⟩,⟨_,[],by rw[aQ n2];exact bb,rfl,cY.mpr rfl⟩,trivial⟩,.inl ⟨rfl,bb⟩⟩ (by simp[n12,n1.symm,n2.symm]) λb hb=>?_) hF;rcases List.mem_cons.mp hb with z|hb
  ·rw[z];exact⟨MV,c1,c2,c3⟩
  ·rcases List.mem_cons.mp hb with z|hb
   ·rw[z];exact⟨by simp,a1,a2,a3⟩
   ·rw[List.mem_singleton.mp hb];exact⟨by simp,b1,b2,b3⟩
theorem J3{i c:Nat}{ci:Int}{x:Str}{ve:QX}{fv:FX}{j:Nat}{npos jpos spos ap cp pos:Pos}(hx:PE X (.Name x npos) (xn i))(hve:FE X ve fv)(hci:ci=(c:Int):=by rfl)(hpl:oA (.Constant (.int ci) j jpos):=by intro _ _;rfl)(hn2:noStar ve=true:=by rfl)
  (hb2:RF (.Subscript (.Name x npos) (.Constant (.int ci) j jpos) spos) "append" X.env (eval (.Subscript (.Name x npos) (.Constant (.int ci) j jpos) spos) X.env)=eval (.Subscript (.Name x npos) (.Constant (.int ci) j jpos) spos) X.env:=by rfl)
  (hf2:((backTo cp (QY [ve] X.env)).all (λx=>!x.1)&&(backToKw cp (Ri [] X.env)).all (λx=>x.1.isSome)&&decide (([ve]:List QX).length+([]:List RG).length+(if([]:List RG).isEmpty then 0 else 1)<30))=true:=by rfl)
  (hl2:(ap.endLine==cp.line)=true:=by rfl) (hp2:(backTo cp (QY [] X.env)).any (·.1)=false:=by rfl)
  (hsw:swapsWith (.Call (.Attribute (.Subscript (.Name x npos) (.Constant (.int ci) j jpos) spos) "append" ap) [ve] [] cp) none pos.line X.env=pure false:=by rfl):
  FS X (.Expr (.Call (.Attribute (.Subscript (.Name x npos) (.Constant (.int ci) j jpos) spos) "append" ap) [ve] [] cp) pos) (qe i c fv):=λHb Ob pins s σ H E I ⟨O,ρ,k,rr,S,hF,hk⟩=>by
 obtain⟨xs,ys,v,hi,hxc,hfv,hsm,hnx⟩:=yF hF hk.ne;subst hci;obtain⟨a,bs,ha,⟨xs',hO,hat⟩,nd,hbs,one⟩:=S.nst i _ hi;obtain⟨rfl,hHa⟩:xs'=xs/\H a=some (.lst (bs.map .ref)):=by
  rcases hat with⟨e,q⟩|⟨_,e,_⟩|⟨e,_⟩
  ·cases e;exact⟨rfl,q⟩
  ·cases e
  ·cases e
 obtain⟨na,nb⟩:=List.nodup_cons.mp nd;obtain⟨aO,aHb,aOb,aS⟩:=hbs a MV;obtain⟨l,hl,⟨o,wl,hl3,eo,dl⟩,new⟩:=we hO nb hxc;subst eo;have lb:=Nn hl;have la:l≠a:=λz=>na (by rw[<-z];exact lb);obtain⟨lO,lHb,lOb,lS⟩:=hbs l (MX _ lb);refine zf (E9 F.plainAttrs_list F.slot_list_append F.type_list_append dI (Fq zK hx Dj hpl) (Em hve Gh hn2) hb2 hf2 hl2 (fg hn2) hp2) hsw pins s σ H E I ?_;refine⟨.ref a,ha,a,bs.map .ref,(c:Int),.ref l,rfl,rfl,n0.of hHa,EV (by rw[Nm,hl];rfl),.inl ⟨rfl,wl,n0.of hl3⟩,O,ρ,S.env,?_⟩;have e1:(ah fv aw) ρ=.ok [v]:=by
  show(fv ρ).bind _=_;rw[hfv];rfl
 rw[e1];intro vs H4 s4 dv;obtain⟨y',rfl,dy⟩:=dv.one;have hl4:=s4 _ _ hl3;have sm5:bE (hid H O) (hid (upd H4 l (.lst (wl++[y']))) O):=(cy s4).trans (jg lO);have wlen:=dl.length;refine⟨l,wl,y',rfl,rfl,hl4,by rw[<-wlen];exact MP (Nat.lt_of_succ_le (of_decide_eq_true hsm)) (by decide),hk.nx O _ σ _ (S.setN hi (λc hc=>hc) sm5 ⟨λc u h=>?_,S.base.sub,S.base.new⟩ ((S.env.all.same s4).upd lO trivial) (λj xs c w1 w2=>?_) ?_) hnx⟩
 ·have cl:c≠l:=λz=>by rw[z,lHb]at h;cases h
  rw[aQ cl];exact s4 _ _ (S.base.same c u h)
 ·obtain⟨c',q1,q2,q3⟩:=S.env.own j xs w1;rw[w2]at q1;cases q1;obtain⟨o,ho⟩:=q3.some;have cl:c≠l:=λz=>lS j xs w1 (by rw[<-z];exact w2);rw[ho,aQ cl];exact(s4 _ _ ho).symm
 ·have own:∀(j:Nat) d' d2,(ρ.set i (some (.nest d2)))[j]?=some (some (.own d'))->ρ[j]?=some (some (.own d')):=λj d' d2 w=>by
   rcases bq w with⟨_,z⟩|⟨_,z⟩
   ·cases z
   ·exact z
  refine⟨a,bs,ha,⟨_,new _ _ (.lst (ys++[v])) (λc hc ne x hx=>hx.mono ?_ sm5) ⟨_,_,bb,rfl,?_⟩,.inl ⟨rfl,?_⟩⟩,nd,λc hc=>?_,λj d' w=>?_⟩
  ·obtain⟨o,ho⟩:=hx.some;rw[aQ ne,ho,s4 _ _ ho]
  ·exact(dl.mono sm5).append (bM.mpr ⟨y',[],rfl,dy.mono (jg lO),cY.mpr rfl⟩)
  ·rw[aQ (Ne.symm la)];exact s4 _ _ hHa
  ·obtain⟨w1,w2,w3,w4⟩:=hbs c hc;exact⟨w1,w2,w3,λj d' w=>w4 j d' (own j d' _ w)⟩
  ·rcases bq w with⟨hj,_⟩|⟨_,z⟩
   ·exact hj
   ·exact one j d' z
end
end TG
namespace TX
open PySem PySem.Spec L2 TG
variable[bd]
structure XE(X:Cx)(e:QX)(F:FX):Prop where h:FE X e F
structure XT(X:Cx)(e:QX)(F:av->R Bool):Prop where h:FT X e F
structure XW(X:Cx)(e:QX)(F:av->R Bool):Prop where h:FW X e F
structure XA(X:Cx)(e:List QX)(F:av->R (List D)):Prop where h:FA X e F
structure XS(X:Cx)(e:QZ)(F:cx):Prop where h:FS X e F
structure yv(X:Cx)(e:List QZ)(F:cx):Prop where h:xO X e F
structure XI(X:Cx)(t e:QX)(F:av->R (List D)):Prop where h:FI X t e F
structure XG(X:Cx)(e:QX)(F:GF):Prop where h:FG X e F
structure Kg(X:Cx)(e:List QX)(F:Bt):Prop where h:HY X e F
structure XO(X:Cx)(e:Option QX)(F:av->R (Option Int)):Prop where h:FO X e F
structure XN(X:Cx)(e:QX)(F:FX):Prop where h:FN X e F
structure L6(X:Cx)(e:List QX)(F:av->R Bool):Prop where h:J0 X e F
structure XV(X:Cx)(e:QX)(i:Nat):Prop where h:PE X e (xn i)
structure XB(X:Cx)(scope:QV)(N:List Str)(tg elt:QX)(ifs:List QX)(g:GF)(C:av->R Bool)(Fe:FX)(cl:List (Str×QL))(C':QL)(fp:List QL)(s:QU)(H:Hp)(E:QI->QU->Prop):Prop where
 a:XG (cI X scope N cl C' fp s H E) tg g
 b:L6 (cI X scope N cl C' fp s H E) ifs C
 c:XE (cI X scope N cl C' fp s H E) elt Fe
structure CF(X:Cx)(scope:QV)(N:List Str)(tg elt:QX)(ifs:List QX)(g:GF)(C:av->R Bool)(Fe:FX):Prop where
 q:∀cl C' fp s H E,XB X scope N tg elt ifs g C Fe cl C' fp s H E
theorem CF.h{X:Cx}{scope:QV}{N:List Str}{tg elt:QX}{ifs:List QX}{g:GF}{C:av->R Bool}{Fe:FX}(x:CF X scope N tg elt ifs g C Fe):HN X scope N tg elt ifs g C Fe:=λcl C' fp s H E=>⟨(x.q cl C' fp s H E).a.h,(x.q cl C' fp s H E).b.h,(x.q cl C' fp s H E).c.h⟩
theorem xv{X:Cx}(i:Nat){x:Str}{pos:Pos}(hN:X.N[i]?=some x:=by rfl)(hv:Hs X.env.scope x:=by first|exact Or.inl rfl|exact Or.inr (Or.inl rfl)|exact Or.inr (Or.inr rfl))(hd:(x==("__debug__":Str))=false:=by decide)
  (hcd:(x==("__classdict__":Str))=false:=by decide):XV X (.Name x pos) i:=⟨pv i hN hv hd hcd⟩
theorem wZ{X:Cx}{e:QX}{f:av->R Bool}(h:XW X e f):XT X e f:=⟨FW.ft h.h⟩
section
variable[bd]{X:Cx}
theorem aa{i:Nat}{x:Str}{pos:Pos}(h:XV X (.Name x pos) i):XE X (.Name x pos) (af i):=⟨TG.Le h.h⟩
end
section
variable[bd]{X:Cx}
theorem ai{i j pos}:XE X (.Constant (.int i) j pos) (fC (.int i)):=⟨TG.K1 ⟩
end
section
variable[bd]{X:Cx}
theorem du{b j pos}:XE X (.Constant (.bool b) j pos) (fC (.bl b)):=⟨TG.Mo ⟩
end
section
variable[bd]{X:Cx}
theorem cK{x j pos}:XE X (.Constant (.str x) j pos) (fC (.str x)):=⟨TG.LW ⟩
end
section
variable[bd]{X:Cx}
theorem aj:XA X [] aw:=⟨TG.Gh ⟩
end
section
variable[bd]{X:Cx}
theorem ae{e:QX}{es:List QX}{f:FX}{g:av->R (List D)}(he:XE X e f)(hs:XA X es g)(hns:noStar e=true:=by rfl):XA X (e::es) (ah f g):=⟨TG.Em he.h hs.h hns⟩
end
section
variable[bd]{X:Cx}
theorem bP{es:List QX}{g:av->R (List D)}{k pos}(h:XA X es g):XE X (.Tuple es k pos) (cF g):=⟨TG.LC h.h⟩
end
section
variable[bd]{X:Cx}
theorem dA{es:List QX}{g:av->R (List D)}{pos}(h:XA X es g):XE X (.List es pos) (gh g):=⟨TG.KW h.h⟩
end
section
variable[bd]{X:Cx}
theorem aq{a b:QX}{op:Operator}{r:R2}{g:D->D->Option D}{fa fb:FX}{pos:Pos}(ho:kY X (Ra op) r)(s:eB X.K r g)(ha:XE X a fa)(hb:XE X b fb):XE X (.BinOp a op b pos) (f2 g fa fb):=⟨TG.Lp ho s ha.h hb.h⟩
end
section
variable[bd]{X:Cx}
theorem qI{a b:QX}{op:CmpOp}{r:R2}{g:D->D->Option D}{fa fb:FX}{pos:Pos}(ho:kY X (Rb op) r)(s:eB X.K r g)(ha:XE X a fa)(hb:XE X b fb)(hm:Rc op b=false):XE X (.Compare a [op] [b] pos) (f2 g fa fb):=⟨TG.LK ho s ha.h hb.h hm⟩
end
section
variable[bd]{X:Cx}
theorem aX{a b:QX}{op:CmpOp}{r:R2}{g:D->D->Option D}{fa fb:FX}{pos:Pos}(ho:kY X (Rb op) r)(s:eB X.K r g)(ha:XE X a fa)(hb:XE X b fb)(hm:Rc op b=false):XT X (.Compare a [op] [b] pos) (fB (f2 g fa fb)):=⟨TG.LR ho s ha.h hb.h hm⟩
end
section
variable[bd]{X:Cx}{a b c:QX}{rest:List QX}{pos:Pos}{f g:av->R Bool}
theorem jf(h:XT X a f):XT X (.UnaryOp .Not a pos) (rC f):=⟨TG.Ko h.h⟩
end
section
variable[bd]{X:Cx}{a b c:QX}{rest:List QX}{pos:Pos}{f g:av->R Bool}
theorem iS(h:XT X a f):XW X (.BoolOp .And [a] pos) f:=⟨TG.J5 h.h⟩
end
section
variable[bd]{X:Cx}{a b c:QX}{rest:List QX}{pos:Pos}{f g:av->R Bool}
theorem hZ(h:XT X a f):XW X (.BoolOp .Or [a] pos) f:=⟨TG.Ls h.h⟩
end
section
variable[bd]{X:Cx}{a b c:QX}{rest:List QX}{pos:Pos}{f g:av->R Bool}
theorem kK(ha:XT X a f)(hb:XW X (.BoolOp .And (b::rest) pos) g):XW X (.BoolOp .And (a::b::rest) pos) (kD f g):=⟨TG.KY ha.h hb.h⟩
end
section
variable[bd]{X:Cx}{a b c:QX}{rest:List QX}{pos:Pos}{f g:av->R Bool}
theorem js(ha:XT X a f)(hb:XW X (.BoolOp .Or (b::rest) pos) g):XW X (.BoolOp .Or (a::b::rest) pos) (ya f g):=⟨TG.Mf ha.h hb.h⟩
end
section
variable[bd]{X:Cx}{a b c:QX}{rest:List QX}{pos:Pos}{f g:av->R Bool}{fa fb:FX}
theorem vy{op}(h:XE X a fa):XE X (.BoolOp op [a] pos) fa:=⟨TG.LU h.h⟩
end
section
variable[bd]{X:Cx}{a b c:QX}{rest:List QX}{pos:Pos}{f g:av->R Bool}{fa fb:FX}
theorem qE(ha:XE X a fa)(hb:XE X (.BoolOp .And (b::rest) pos) fb):XE X (.BoolOp .And (a::b::rest) pos) (sr fa fb):=⟨TG.Kj ha.h hb.h⟩
end
section
variable[bd]{X:Cx}
theorem ay{a b:QX}{fa fb:FX}{pos:Pos}(ha:XE X a fa)(hb:XE X b fb)(hs:oA b):XE X (.Subscript a b pos) (f2 aA fa fb):=⟨TG.Mp ha.h hb.h hs⟩
end
section
variable[bd]{X:Cx}
theorem bA:XO X none aG:=⟨TG.Kb ⟩
end
section
variable[bd]{X:Cx}
theorem bB{e:QX}{f:FX}(h:XE X e f):XO X (some e) (bp f):=⟨TG.JY h.h⟩
end
section
variable[bd]{X:Cx}
theorem bh{e:QX}{f:FX}{l h:av->R (Option Int)}{lo hi:Option QX}{p2 pos:Pos}(he:XE X e f)(hl:XO X lo l)(hh:XO X hi h):XE X (.Subscript e (.Slice lo hi none p2) pos) (aP f l h):=⟨TG.IL he.h hl.h hh.h⟩
end
section
variable[bd]{X:Cx}{x:Str}{p pos:Pos}{e:QX}{es:List QX}{id T:String}{g:List D->Option D}{f:av->R (List D)}
theorem aZ(hc:dZ X (.builtin id) (xP X.K g))(hg:Gl X x)(hm:X.mg x=none)(hv:QS x=some (.builtin id))(ha:XA X (e::es) f)(hn:x≠"__name__":=by decide)(hdb:(x==("__debug__":Str))=false:=by decide)(hns:(e::es).all noStar=true:=by rfl):XE X (.Call (.Name x p) (e::es) [] pos) (fL g f):=⟨TG.Iz hc hg hm hv ha.h hn hdb hns⟩
end
section
variable[bd]{X:Cx}{x:Str}{p pos:Pos}{e:QX}{es:List QX}{id T:String}{g:List D->Option D}{f:av->R (List D)}
theorem bK(hc:dZ X (.type T) (xP X.K g))(hg:Gl X x)(hm:X.mg x=none)(hv:QS x=some (.type T))(ha:XA X (e::es) f)(hn:x≠"__name__":=by decide)(hdb:(x==("__debug__":Str))=false:=by decide)(hns:(e::es).all noStar=true:=by rfl):XE X (.Call (.Name x p) (e::es) [] pos) (fL g f):=⟨TG.HP hc hg hm hv ha.h hn hdb hns⟩
end
section
variable[bd]{X:Cx}{x:Str}{p pos:Pos}{e:QX}{es:List QX}{id T:String}{g:List D->Option D}{f:av->R (List D)}
theorem gY{f:FX}{xT:Str}{p2:Pos}(ok:xB X.K T)(hg:Gl X "isinstance")(hm:X.mg "isinstance"=none)(hgT:Gl X xT)(hmT:X.mg xT=none)(hvT:QS xT=some (.type T))(he:XE X e f)(hn2:xT≠"__name__":=by decide)(hd2:(xT==("__debug__":Str))=false:=by decide)(hns:noStar e=true:=by rfl):XE X (.Call (.Name "isinstance" p) [e,.Name xT p2] [] pos) (o8 T f):=⟨TG.Lw ok hg hm hgT hmT hvT he.h hn2 hd2 hns⟩
end
section
variable[bd]{X:Cx}{a:QX}{f:FX}{pos:Pos}
theorem df(h:XE X a f)(he:∀whole,isTrue a X.env whole=(do let v<-whole;standAt a.pos;holding [v] (truthy v)):=by intro _;rfl):XT X a (eX f):=⟨TG.IM h.h he⟩
end
section
variable[bd]{X:Cx}{tg:QX}
theorem bU{e:QX}{f:FX}(h:XE X e f):XI X tg e (bc f):=⟨TG.LJ h.h⟩
end
section
variable[bd]{X:Cx}{tg:QX}
theorem gR{a:QX}{f:av->R (List D)}{p pos:Pos}(hg:Gl X "range")(hm:X.mg "range"=none)(ha:XA X [a] f)(hs:QY [a] X.env=[(false,eval a X.env)]:=by rfl):XI X tg (.Call (.Name "range" p) [a] [] pos) (fM f):=⟨TG.HR hg hm ha.h hs⟩
end
section
variable[bd]{X:Cx}{tg:QX}
theorem rX{a b:QX}{f:av->R (List D)}{p pos:Pos}(hg:Gl X "range")(hm:X.mg "range"=none)(ha:XA X [a,b] f)(hs:QY [a,b] X.env=[(false,eval a X.env),(false,eval b X.env)]:=by rfl)(hs2:QY [b] X.env=[(false,eval b X.env)]:=by rfl):XI X tg (.Call (.Name "range" p) [a,b] [] pos) (oG f):=⟨TG.HQ hg hm ha.h hs hs2⟩
end
section
variable[bd]{X:Cx}{pos:Pos}
theorem aI{i:Nat}{x:Str}(hN:X.N.Nodup)(hi:X.N[i]?=some x)(hx:Loc X.env.scope x)(hf:X.fn x=true\/X.env.scope.names.lookup x=some .local:=by first|exact .inl rfl|exact .inr rfl|assumption):XG X (.Name x pos) (gN i):=⟨TG.JW hN hi hx hf⟩
end
section
variable[bd]{X:Cx}{pos:Pos}
theorem i5:Kg X [] CW:=⟨TG.JK ⟩
end
section
variable[bd]{X:Cx}{pos:Pos}
theorem cO{e:QX}{es:List QX}{g:GF}{h:Bt}(h1:XG X e g)(h2:Kg X es h)(hs:(assignEach (e::es) X.env).map (·.2)=assign e X.env::(assignEach es X.env).map (·.2):=by rfl):Kg X (e::es) (yk g h):=⟨TG.Ic h1.h h2.h hs⟩
end
section
variable[bd]{X:Cx}{pos:Pos}
theorem kH{es:List QX}{k:Nat}{g:Bt}{n:Nat}(hc:X.calm=true)(h:Kg X es g)(hn:(assignEach es X.env).length=n:=by rfl)(hst:(assignEach es X.env).findIdx? (·.1)=none:=by rfl):XG X (.Tuple es k pos) (gT n g):=⟨TG.Lf hc h.h hn hst⟩
end
section
variable[bd]
theorem dg{X:Cx}:L6 X [] cX:=⟨TG.JX ⟩
end
section
variable[bd]
theorem eJ{X:Cx}{c:QX}{F:av->R Bool}(h:XT X c F):L6 X [c] F:=⟨TG.JZ h.h⟩
end
section
variable[bd]{X:Cx}{elt tg iter:QX}{ifs:List QX}{scope:QV}{pos:Pos}{N:List Str}{ix:List (Option Nat)}{G:av->R (List D)}{g:GF}{C:av->R Bool}{Fe:FX}
theorem eA(hc:X.calm=true)(ok:iK X scope N ix)(tk:qv ix g)(hi:XI X tg iter G)(hb:CF X scope N tg elt ifs g C Fe)(hs:∀x,Q8 iter X.env x=pure x:=by intro _;rfl):XE X (.ListComp elt [⟨tg,iter,ifs,0⟩] scope pos) (gg ix G g C Fe):=⟨TG.Mh hc ok tk hi.h hb.h hs⟩
end
section
variable[bd]{X:Cx}{st:QZ}{rest body:List QZ}{pos:Pos}
theorem aL:yv X [] bZ:=⟨TG.J4 ⟩
end
section
variable[bd]{X:Cx}{st:QZ}{rest body:List QZ}{pos:Pos}
theorem ao{F1 F2:cx}(h1:XS X st F1)(h2:yv X rest F2):yv X (st::rest) (aH F1 F2):=⟨TG.Jf h1.h h2.h⟩
end
section
variable[bd]{X:Cx}{st:QZ}{rest body:List QZ}{pos:Pos}
theorem az{F1:cx}(h1:XS X st F1):yv X [st] F1:=⟨TG.JP h1.h⟩
end
section
variable[bd]{X:Cx}{st:QZ}{rest body:List QZ}{pos:Pos}
theorem aN{e:QX}{f:FX}(h:XE X e f):XS X (.Return (some e) pos) (bI f):=⟨TG.KC h.h⟩
end
section
variable[bd]{X:Cx}{st:QZ}{rest body:List QZ}{pos:Pos}
theorem bY{c:QX}{a b:List QZ}{tc:av->R Bool}{A B:cx}(hc:XT X c tc)(ha:yv X a A)(hb:yv X b B):XS X (.If c a b pos) (ik tc A B):=⟨TG.Mi hc.h ha.h hb.h⟩
end
section
variable[bd]{X:Cx}{st:QZ}{rest body:List QZ}{pos:Pos}
theorem aD{i:Nat}{x:Str}{e:QX}{f:FX}{pos':Pos}(hN:X.N.Nodup)(hi:X.N[i]?=some x)(hx:Loc X.env.scope x)(he:XE X e f)(hs:swapsWith e (some (.Name x pos')) pos.line X.env=pure false:=by rfl)(hf:X.fn x=true\/X.env.scope.names.lookup x=some .local:=by first|exact .inl rfl|exact .inr rfl|assumption):XS X (.Assign [.Name x pos'] e pos) (bG i f):=⟨TG.KR hN hi hx he.h hs hf⟩
end
section
variable[bd]{X:Cx}{st:QZ}{rest body:List QZ}{pos:Pos}
theorem rQ{elt tg iter:QX}{ifs:List QX}{scope:QV}{N:List Str}{ix:List (Option Nat)}{G:av->R (List D)}{g:GF}{C:av->R Bool}{Fe:FX}{i:Nat}{y:Str}{lpos py spos:Pos}(hN:X.N.Nodup)(hi':X.N[i]?=some y)(hx:Loc X.env.scope y)(hc:X.calm=true)(ok:iK X scope N ix)(tk:qv ix g)(hi:XI X tg iter G)(hb:CF X scope N tg elt ifs g C Fe)(hsw:swapsWith (.ListComp elt [⟨tg,iter,ifs,0⟩] scope lpos) (some (.Name y py)) spos.line X.env=pure true:=by rfl)(hs:∀x,Q8 iter X.env x=pure x:=by intro _;rfl)(hf:X.fn y=true\/X.env.scope.names.lookup y=some .local:=by first|exact .inl rfl|exact .inr rfl|assumption):XS X (.Assign [.Name y py] (.ListComp elt [⟨tg,iter,ifs,0⟩] scope lpos) spos) (bG i (gg ix G g C Fe)):=⟨TG.Mk hN hi' hx hc ok tk hi.h hb.h hsw hs hf⟩
end
section
variable[bd]{X:Cx}{st:QZ}{rest body:List QZ}{pos:Pos}
theorem DQ{tg e:QX}{f:FX}{g:GF}(he:XE X e f)(hg:XG X tg g)(hs:swapsWithSole [tg] e pos.line X.env=pure false:=by rfl)(hw:swappedStores [tg] e X.env=pure none:=by rfl)(h1:(assignEach [tg] X.env).map (·.2)=[assign tg X.env]:=by rfl):XS X (.Assign [tg] e pos) (D4 f g):=⟨TG.Kr he.h hg.h hs hw h1⟩
end
section
variable[bd]{X:Cx}{st:QZ}{rest body:List QZ}{pos:Pos}
theorem bV{st:List QZ}{F:cx}(is:List Nat)(h:yv X st F):yv X st (cD is F):=⟨TG.Jd is h.h⟩
end
section
variable[bd]{X:Cx}{st:QZ}{rest body:List QZ}{pos:Pos}
theorem cZ{tg iter:QX}{G:av->R (List D)}{g:GF}{B:cx}(hp:Q7 (model X.prog X.w) X.A X.env X.xe)(hc:X.calm=true)(hi:XI X tg iter G)(hg:XG X tg g)(hb:yv X body B)(hs:∀x,Q8 iter X.env x=pure x:=by intro _;rfl):XS X (.For tg iter body [] pos) (fT G g B):=⟨TG.Lq hp hc hi.h hg.h hb.h hs⟩
end
section
variable[bd]{X:Cx}{pos:Pos}
theorem ko{es:List QX}{g:av->R (List D)}(h:XA X es g):XN X (.List es pos) (gh g):=⟨TG.K6 h.h⟩
end
section
variable[bd]{X:Cx}{pos:Pos}
theorem o9:XN X (.Dict [] [] pos) tG:=⟨TG.IE ⟩
end
section
variable[bd]{X:Cx}{pos:Pos}
theorem fK{i:Nat}{x:Str}{e:QX}{f:FX}{pos':Pos}(hN:X.N.Nodup)(hi:X.N[i]?=some x)(hx:Loc X.env.scope x)(he:XN X e f)(hs:swapsWith e (some (.Name x pos')) pos.line X.env=pure false:=by rfl)(hf:X.fn x=true\/X.env.scope.names.lookup x=some .local:=by first|exact .inl rfl|exact .inr rfl|assumption):XS X (.Assign [.Name x pos'] e pos) (li i f):=⟨TG.LI hN hi hx he.h hs hf⟩
end
section
variable[bd]
theorem zX{X:Cx}{elt tg iter:QX}{ifs:List QX}{scope:QV}{N:List Str}{ix:List (Option Nat)}{G:av->R (List D)}{g:GF}{C:av->R Bool}{Fe:FX}{i:Nat}{y:Str}{lpos py spos:Pos}(hN:X.N.Nodup)(hi':X.N[i]?=some y)(hx:Loc X.env.scope y)(hc:X.calm=true)(ok:iK X scope N ix)(tk:qv ix g)(hi:XI X tg iter G)(hb:CF X scope N tg elt ifs g C Fe)(hsw:swapsWith (.ListComp elt [⟨tg,iter,ifs,0⟩] scope lpos) (some (.Name y py)) spos.line X.env=pure true:=by rfl)(hs:∀x,Q8 iter X.env x=pure x:=by intro _;rfl)(hf:X.fn y=true\/X.env.scope.names.lookup y=some .local:=by first|exact .inl rfl|exact .inr rfl|assumption):XS X (.Assign [.Name y py] (.ListComp elt [⟨tg,iter,ifs,0⟩] scope lpos) spos) (li i (gg ix G g C Fe)):=⟨TG.JD hN hi' hx hc ok tk hi.h hb.h hsw hs hf⟩
end
section
variable[bd]
theorem G4{X:Cx}{elt tg iter:QX}{ifs:List QX}{scope:QV}{pos:Pos}{N:List Str}{ix:List (Option Nat)}{G:av->R (List D)}{g:GF}{C:av->R Bool}{Fe:FX}(hc:X.calm=true)(ok:iK X scope N ix)(tk:qv ix g)(hi:XI X tg iter G)(hb:CF X scope N tg elt ifs g C Fe)(hs:∀x,Q8 iter X.env x=pure x:=by intro _;rfl):XN X (.ListComp elt [⟨tg,iter,ifs,0⟩] scope pos) (gg ix G g C Fe):=⟨TG.Md hc ok tk hi.h hb.h hs⟩
end
section
variable[bd]
theorem kM{X : Cx}{i : Nat}{x m : Str}{id : String}{r : V -> List V -> Hp -> VK -> Prop}{u : List D -> List D -> Option (List D)}{e : QX}{es : List QX}{f : av -> R (List D)}{npos apos cpos pos : Pos}(slot : Slot "list" m id)(hty : typeOf (.builtin id) = pure (.type "method_descriptor"))(hm : LV X id r)(ok : Dt X.K r u)(hx : XV X (.Name x npos) i)(he : XA X (e :: es) f)(hbase : RF (.Name x npos) m X.env (eval (.Name x npos) X.env) = eval (.Name x npos) X.env := by rfl)(hfew : ((backTo cpos (QY (e :: es) X.env)).all (fun x => !x.1) && (backToKw cpos (Ri [] X.env)).all (fun x => x.1.isSome)
      && decide ((e::es:List QX).length+([]:List RG).length+(if([]:List RG).isEmpty then 0 else 1)<30))=true:=by rfl)(hline:(apos.endLine==cpos.line)=true:=by rfl)(hs:QY (e::es) X.env=(false,eval e X.env)::QY es X.env:=by rfl)(hplain:(backTo cpos (QY es X.env)).any (·.1)=false:=by rfl)(hsw:swapsWith (.Call (.Attribute (.Name x npos) m apos) (e::es) [] cpos) none pos.line X.env=pure false:=by rfl):XS X (.Expr (.Call (.Attribute (.Name x npos) m apos) (e::es) [] cpos) pos) (yf i u f):=⟨TG.Mj slot hty hm ok hx.h he.h hbase hfew hline hs hplain hsw⟩
end
section
variable[bd]
theorem eM{X:Cx}{st:List QZ}{F:cx}(i:Nat)(h:yv X st F):yv X st (ic i F):=⟨TG.Ke i h.h⟩
end
section
variable[bd]
theorem wM{X:Cx}{e:QX}{f:av->R Bool}(is:List Nat)(h:XT X e f):XT X e (lA is f):=⟨TG.JO is h.h⟩
end
section
variable[bd]
theorem ax{X:Cx}{k k':Nat}{ps:List Str}{g:List D->R D}{h:av->R (List D)}{x:Str}{p pos:Pos}{e:QX}{es:List QX}(C:Callee X.prog X.w X.K X.mg X.base k x ps g)(hn:Ar ps.length g)(hr:iF k' X.A)(hk:k<=k')(ha:XA X (e::es) h)(hg:Gl X x:=by rfl)(hdb:(x==("__debug__":Str))=false:=by decide)(hns:(e::es).all noStar=true:=by rfl):XE X (.Call (.Name x p) (e::es) [] pos) (fR g h):=⟨TG.HL C hn hr hk ha.h hg hdb hns⟩
end
section
variable[bd]{X:Cx}{a b c:QX}{fa fb fc:FX}{pos:Pos}
theorem zD(ha:XE X a fa):XE X (.UnaryOp .USub a pos) (C5 fa):=⟨TG.Ku ha.h⟩
end
section
variable[bd]{X:Cx}
theorem vL{a b:QX}{es:List QX}{k:Nat}{tpos:Pos}{f:av->R (List D)}{p pos:Pos}(hg:Gl X "zip")(hm:X.mg "zip"=none)(ha:XA X [a,b] f)(hs:QY [a,b] X.env=(false,eval a X.env)::QY [b] X.env:=by rfl)(hpl:(backTo pos (QY [b] X.env)).any (·.1)=false:=by rfl):XI X (.Tuple es k tpos) (.Call (.Name "zip" p) [a,b] [] pos) (AG f):=⟨TG.KD hg hm ha.h hs hpl⟩
end
section
variable[bd]{X:Cx}
theorem nD{a:QX}{es:List QX}{k:Nat}{tpos:Pos}{f:av->R (List D)}{p pos:Pos}(hg:Gl X "enumerate")(hm:X.mg "enumerate"=none)(ha:XA X [a] f)(hs:QY [a] X.env=(false,eval a X.env)::QY [] X.env:=by rfl)(hpl:(backTo pos (QY [] X.env)).any (·.1)=false:=by rfl):XI X (.Tuple es k tpos) (.Call (.Name "enumerate" p) [a] [] pos) (gI f):=⟨TG.DV hg hm ha.h hs hpl⟩
end
section
variable[bd]{X:Cx}{a o e:QX}{es:List QX}{fa fo:FX}{fas:av->R (List D)}{f m x:Str}{cs:List Str}{pos apos p:Pos}{k k':Nat}{ps:List Str}
theorem sJ{tbl : List (Str × (List D -> R D))}{pl : Sem Bool}(tb : nI X.prog X.w X.K X.mg X.base k m ps tbl)(hr : iF k' X.A)(hk : k <= k')(ho : XE X o fo)(ha : XA X (e :: es) fas)(hns : (e :: es).all noStar = true := by rfl)(ht : eval (.Call (.Attribute o m apos) (e :: es) [] pos) X.env = (do
      let ov<-eval o X.env
      standAt apos.atName
      let (f,first)<-holding [ov] (getMethod ov m pl)
      Rh pos f first (backTo pos (QY (e::es) X.env)) (backToKw pos (Ri [] X.env))):=by rfl):XE X (.Call (.Attribute o m apos) (e::es) [] pos) (lE m tbl fo fas):=⟨TG.J6 tb hr hk ho.h ha.h hns ht⟩
end
section
variable[bd]{X:Cx}{C:QL}{pins:List (QL×Obj)}{σ:St}{H:Hp}{s:QU}{Q:VK}
theorem CN{c:Str}{p pos:Pos}(NA:zp X.K X.mg c)(hg:Gl X c)(hdb:(c==("__debug__":Str))=false:=by decide):XE X (.Call (.Name c p) [] [] pos) (fC (.obj c [] [])):=⟨TG.Ka NA hg hdb⟩
end
section
variable[bd]
theorem Dd{X:Cx}{i:Nat}{x:Str}{idx value:QX}{fk fv:FX}{npos tpos pos:Pos}(hu:X.A.units+64<Rl)(hx:XV X (.Name x npos) i)(hi:XE X idx fk)(hv:XE X value fv)(hs:swapsWith value (some (.Subscript (.Name x npos) idx tpos)) pos.line X.env=pure false:=by rfl):XS X (.Assign [.Subscript (.Name x npos) idx tpos] value pos) (tX i fk fv):=⟨TG.J7 hu hx.h hi.h hv.h hs⟩
end
section
variable[bd]{X:Cx}{pins:List (QL×Obj)}{s:QU}{σ:L2.St}{H:Hp}{O:List QL}
theorem AX{f:FX}{j:Nat}{k:Nat}{c P cc:QL}{e:QX}{p lpos kp pos np mp p2 spos:Pos}{row many:Str}{params:Rp}{scope:QV}(hr:iF k X.A)(hg:Gl X "sorted")(hm:X.mg "sorted"=none)(B:AK X.mg X.base c P)(hcode:X.env.code=.ref c)(hT:∀H,bd.tab H->H P=some (.ext (oI P lpos (X.env.qual++"<lambda>"))))(he:XE X e f)(hN:X.N[j]?=some many)(hkm:X.env.kindOf many=some .cell)(hv:Hs X.env.scope many)(hcc:X.env.cells.lookup many=some cc)(hcl:closureFor scope X.env=pure [(many,cc)])(hdef:defaultsOf params X.env=([],[]))(hbind:∀cdv ctv v,bindArgs (Qb "<lambda>" (X.env.qual++"<lambda>") params (cutE row many np mp p2 spos) scope [(many,cc)] ((X.mg "__name__").getD .none) cdv ctv) ⟨[v],[]⟩=pure [(row,v)])(hco:scope.isCoroutine=false)(hgen:scope.isGenerator=false)(hk:scope.kind=.function)(hno:∀x∈scope.names,x.2≠.cell)(hlr:scope.names.lookup row=some .local)(hlm:scope.names.lookup many=some .free)(d1:(row==("__debug__":Str))=false)(d2:(many==("__debug__":Str))=false)(d3:(many==("__classdict__":Str))=false)(hns:noStar e=true:=by rfl):XE X (.Call (.Name "sorted" p) [e] [⟨some "key",.Lambda params (cutE row many np mp p2 spos) scope lpos,kp⟩] pos) (f2 pG f (af j)):=⟨TG.Ik hr hg hm B hcode hT he.h hN hkm hv hcc hcl hdef hbind hco hgen hk hno hlr hlm d1 d2 d3 hns⟩
end
section
variable[bd]
theorem rY{X:Cx}{i:Nat}{x:Str}{idx value:QX}{fk fv:FX}{npos tpos pos:Pos}(hu:X.A.units+64<Rl)(hx:XV X (.Name x npos) i)(hi:XE X idx fk)(hv:XE X value fv)(hs:swapsWith value (some (.Subscript (.Name x npos) idx tpos)) pos.line X.env=pure false:=by rfl):XS X (.Assign [.Subscript (.Name x npos) idx tpos] value pos) (nK i fk fv):=⟨TG.JL hu hx.h hi.h hv.h hs⟩
end
section
variable[bd]
theorem Aa{X:Cx}{st:List QZ}{F:cx}(i:Nat)(h:yv X st F):yv X st (xN i F):=⟨TG.Jt i h.h⟩
end
section
variable[bd]{X:Cx}
theorem zu{o e:QX}{fo fk:FX}{pos:Pos}(hu:X.A.units+64<Rl)(ho:XE X o fo)(hi:XE X e fk)(hs:EL e):XE X (.Subscript o e pos) (f2 rL fo fk):=⟨TG.K3 hu ho.h hi.h hs⟩
end
section
variable[bd]{X:Cx}
theorem Av{i:Nat}{x:Str}{l1 l2 l3 pos pos':Pos}(hN:X.N.Nodup)(hi:X.N[i]?=some x)(hx:Loc X.env.scope x)(hs:swapsWith (.List [.List [] l1,.List [] l2] l3) (some (.Name x pos')) pos.line X.env=pure false:=by rfl)(hf:X.fn x=true\/X.env.scope.names.lookup x=some .local:=by first|exact .inl rfl|exact .inr rfl|assumption):XS X (.Assign [.Name x pos'] (.List [.List [] l1,.List [] l2] l3) pos) (o6 i):=⟨TG.JI hN hi hx hs hf⟩
end
section
variable[bd]{X:Cx}
theorem v7{i c:Nat}{ci:Int}{x:Str}{ve:QX}{fv:FX}{j:Nat}{npos jpos spos ap cp pos:Pos}(hx:XV X (.Name x npos) i)(hve:XE X ve fv)(hci:ci=(c:Int):=by rfl)(hpl:oA (.Constant (.int ci) j jpos):=by intro _ _;rfl)(hn2:noStar ve=true:=by rfl)(hb2:RF (.Subscript (.Name x npos) (.Constant (.int ci) j jpos) spos) "append" X.env (eval (.Subscript (.Name x npos) (.Constant (.int ci) j jpos) spos) X.env)=eval (.Subscript (.Name x npos) (.Constant (.int ci) j jpos) spos) X.env:=by rfl)(hf2:((backTo cp (QY [ve] X.env)).all (λx=>!x.1)&&(backToKw cp (Ri [] X.env)).all (λx=>x.1.isSome)&&decide (([ve]:List QX).length+([]:List RG).length+(if([]:List RG).isEmpty then 0 else 1)<30))=true:=by rfl)(hl2:(ap.endLine==cp.line)=true:=by rfl)(hp2:(backTo cp (QY [] X.env)).any (·.1)=false:=by rfl)(hsw:swapsWith (.Call (.Attribute (.Subscript (.Name x npos) (.Constant (.int ci) j jpos) spos) "append" ap) [ve] [] cp) none pos.line X.env=pure false:=by rfl):XS X (.Expr (.Call (.Attribute (.Subscript (.Name x npos) (.Constant (.int ci) j jpos) spos) "append" ap) [ve] [] cp) pos) (qe i c fv):=⟨TG.J3 hx.h hve.h hci hpl hn2 hb2 hf2 hl2 hp2 hsw⟩
end
abbrev Lk(K:PD)(f:QL)(nm qual:Str)(st:QZ)(oc:QI)(od:Option QL)(kV dc pm:QI)(an:Option QL)(cd ct:QI)(sl:Array (Option QI)):Prop:=K.lookup f=some ⟨oc,od,.func (P0 nm qual (mG st) (fI st) (aB st) .none kV dc pm an cd ct),sl⟩
structure cV(P:QK)(w:QJ)(K:PD)(mg:Str->Option QI)(base:QN)(k:Nat)(N:List Str)(qual:Str)(st:QZ)(f:QL)(B:cx):Prop where
 h:∀(cdv:QI)(A:QT)(outer:List Env)(s:QU)(H:Hp)(E:XK),iF k (A.deeper (Qt qual (aB st) s.heap.objs.size f cdv))->Q7 (model P w) (A.deeper (Qt qual (aB st) s.heap.objs.size f cdv)) (Qt qual (aB st) s.heap.objs.size f cdv) (kG (nZ P w) P w K mg base N qual (aB st) f cdv A outer s H E).xe->
  yv (kG (nZ P w) P w K mg base N qual (aB st) f cdv A outer s H E) (fI st) B
structure Dm(P:QK)(w:QJ)(K:PD)(mg:Str->Option QI)(base:QN)(k:Nat)(N:List Str)(qual:Str)(st:QZ)(f:QL)(B:cx):Prop where
 h:∀(cdv:QI)(A:QT)(outer:List Env)(s:QU)(H:Hp)(E:XK),ud K f cdv->iF k (A.deeper (Qt qual (aB st) s.heap.objs.size f cdv))->Q7 (model P w) (A.deeper (Qt qual (aB st) s.heap.objs.size f cdv)) (Qt qual (aB st) s.heap.objs.size f cdv) (kG (nZ P w) P w K mg base N qual (aB st) f cdv A outer s H E).xe->
  yv (kG (nZ P w) P w K mg base N qual (aB st) f cdv A outer s H E) (fI st) B
theorem Dm.ok{P:QK}{w:QJ}{K:PD}{mg:Str->Option QI}{base:QN}{k:Nat}{N:List Str}{qual:Str}{st:QZ}{f:QL}{B:cx}(h:Dm P w K mg base k N qual st f B):uX P w K mg base k N qual st f B:=⟨λcdv A outer s H E hc hr hp=>(h.h cdv A outer s H E hc hr hp).h⟩
theorem cV.ok{P:QK}{w:QJ}{K:PD}{mg:Str->Option QI}{base:QN}{k:Nat}{N:List Str}{qual:Str}{st:QZ}{f:QL}{B:cx}(h:cV P w K mg base k N qual st f B):BodyOk P w K mg base k N qual st f B:=⟨λcdv A outer s H E hr hp=>(h.h cdv A outer s H E hr hp).h⟩
end TX
namespace TG
open L2
instance(priority:=low) noTabs:bd:=⟨λ_=>True,λ_ _=>trivial,λ_ _ _=>trivial⟩
open PySem PySem.Spec L2
theorem nr{α:Sort _}{a b:α}(h:a=b):a=b:=h
theorem dY{α β:Type}(a:α)(f:α->R β):Except.bind (Except.ok a:R α) f=f a:=nr rfl
theorem uN{α β:Type}(x:Option Ex)(f:α->R β):Except.bind (Except.error x:R α) f=.error x:=nr rfl
theorem q5{α:Type}(a:α)(k:Ks)(ρ:av)(f:α->R D):sL (.ok a) k ρ f=f a:=nr rfl
theorem uD{α:Type}(x:Ex)(k:Ks)(ρ:av)(f:α->R D):sL (.error (some x)) k ρ f=k.ex x ρ:=nr rfl
theorem kR{α:Type}(a:α):Cu (.ok a:R α)=.ok a:=nr rfl
theorem e7{α:Type}(a:α):rO (some a)=.ok a:=nr rfl
theorem ge_0(d:D)(ρ:av):rJ (some (.val d)::ρ) 0=.ok d:=nr rfl
theorem A2(x:Option S)(ρ:av)(i:Nat):rJ (x::ρ) (i+1)=rJ ρ i:=by
 unfold rJ;rw[Ol]
theorem pS(i:Nat)(ρ:av):af i ρ=rJ ρ i:=nr rfl
theorem Au(d:D)(ρ:av):fC d ρ=.ok d:=nr rfl
theorem pU(ρ:av):aw ρ=.ok []:=nr rfl
theorem nh(f:FX)(g:av->R (List D))(ρ:av):ah f g ρ=(f ρ).bind λx=>(g ρ).bind λxs=>.ok (x::xs):=nr rfl
theorem pj(g:av->R (List D))(ρ:av):cF g ρ=(g ρ).bind λxs=>rO (xA xs):=nr rfl
theorem pT(g:av->R (List D))(ρ:av):gh g ρ=(g ρ).bind λxs=>rO (kQ xs):=nr rfl
theorem Aw(g:D->Option D)(f:FX)(ρ:av):f1 g f ρ=(f ρ).bind λa=>rO (g a):=nr rfl
theorem AD(g:D->D->Option D)(f h:FX)(ρ:av):f2 g f h ρ=(f ρ).bind λa=>(h ρ).bind λb=>rO (g a b):=nr rfl
theorem Bh(f:FX)(ρ:av):fB f ρ=(f ρ).bind λd=>rO (LN d):=nr rfl
theorem Aq(g:List D->Option D)(f:av->R (List D))(ρ:av):fL g f ρ=(f ρ).bind λds=>rO (g ds):=nr rfl
theorem A5(g:List D->R D)(f:av->R (List D))(ρ:av):fR g f ρ=(f ρ).bind g:=nr rfl
theorem oU(f:av->R Bool)(ρ:av):rC f ρ=(f ρ).bind λb=>.ok (!b):=nr rfl
theorem pA(f g:av->R Bool)(ρ:av):kD f g ρ=(f ρ).bind λb=>if b then g ρ else .ok false:=nr rfl
theorem tU(f g:av->R Bool)(ρ:av):ya f g ρ=(f ρ).bind λb=>if b then .ok true else g ρ:=nr rfl
theorem jV(f:FX)(ρ:av):eX f ρ=(f ρ).bind λd=>rO (truth d):=nr rfl
theorem mK(f g:FX)(ρ:av):sr f g ρ=(f ρ).bind λd=>yj d (g ρ):=nr rfl
theorem p6(f g:FX)(ρ:av):KN f g ρ=(f ρ).bind λd=>JE d (g ρ):=nr rfl
theorem mP(f:FX)(ρ:av):IA f ρ=(f ρ).bind λa=>rO (wu a):=nr rfl
theorem ue(t:av->R Bool)(f g:FX)(ρ:av):ME t f g ρ=(t ρ).bind λc=>if c then f ρ else g ρ:=nr rfl
theorem pc(T:String)(f:FX)(ρ:av):o8 T f ρ=(f ρ).bind λa=>rO (nU T a):=nr rfl
theorem pW(f:FX)(ρ:av):KA f ρ=(f ρ).bind λa=>.ok (.bl (isNon a)):=nr rfl
theorem mY(f:FX)(ρ:av):Io f ρ=(f ρ).bind λa=>.ok (.bl (!isNon a)):=nr rfl
theorem o4(f:FX)(ρ:av):C5 f ρ=(f ρ).bind λa=>rO (Gs a):=nr rfl
theorem jO(f:FX)(ρ:av):HB f ρ=(f ρ).bind λa=>rO (CI a):=nr rfl
theorem p4(f:FX)(ρ:av):K4 f ρ=(f ρ).bind λa=>rO (G0 a):=nr rfl
theorem jE(g g':D->D->Option D)(fa fb fc:FX)(ρ:av):Hg g g' fa fb fc ρ=(fa ρ).bind λx=>(fb ρ).bind λy=>(rO (g x y)).bind λz=>yj z ((fc ρ).bind λw=>rO (g' y w)):=nr rfl
theorem jR(f:FX)(ρ:av):bc f ρ=(f ρ).bind λd=>rO (rz d):=nr rfl
theorem iP(f:av->R (List D))(ρ:av):fM f ρ=(f ρ).bind λds=>rO (kI ds):=nr rfl
theorem iO(f:av->R (List D))(ρ:av):oG f ρ=(f ρ).bind λds=>rO (oQ ds):=nr rfl
theorem pX(f:av->R (List D))(ρ:av):AG f ρ=(f ρ).bind λds=>rO (yx ds):=nr rfl
theorem mB(f:av->R (List D))(ρ:av):gI f ρ=(f ρ).bind λds=>rO (tR ds):=nr rfl
theorem o3(z:Str):MJ (.str z)=some z:=nr rfl
theorem iM(ρ:av):aG ρ=.ok none:=nr rfl
theorem ng(f:FX)(ρ:av):bp f ρ=(f ρ).bind λd=>rO (yi d):=nr rfl
theorem jI(f:FX)(l h:av->R (Option Int))(ρ:av):aP f l h ρ=(f ρ).bind λa=>(l ρ).bind λlo=>(h ρ).bind λhi=>rO (sF a lo hi):=nr rfl
theorem mh(ρ:av):cX ρ=.ok true:=nr rfl
theorem mZ(k:Ks)(ρ:av):bZ k ρ=k.nx ρ:=nr rfl
theorem iI(A B:cx)(k:Ks)(ρ:av):aH A B k ρ=A {k with nx:=B k} ρ:=nr rfl
theorem mi(f:FX)(k:Ks)(ρ:av):bI f k ρ=sL (f ρ) k ρ .ok:=nr rfl
theorem jQ(k:Ks)(ρ:av):IJ k ρ=.ok .non:=nr rfl
theorem nN(c:av->R Bool)(A B:cx)(k:Ks)(ρ:av):ik c A B k ρ=sL (c ρ) k ρ λb=>if b then A k ρ else B k ρ:=nr rfl
theorem mU(i:Nat)(f:FX)(k:Ks)(ρ:av):bG i f k ρ=sL (f ρ) k ρ λd=>k.nx (setV i d ρ):=nr rfl
theorem jA(is:List Nat)(F:cx)(k:Ks)(ρ:av):cD is F k ρ=F k (kill is ρ):=nr rfl
theorem jb(G:av->R (List D))(g:GF)(B:cx)(k:Ks)(ρ:av):fT G g B k ρ=sL (G ρ) k ρ λds=>iu g B k ds ρ:=nr rfl
theorem Af(d:D)(x:Option S)(ρ:av):setV 0 d (x::ρ)=some (.val d)::ρ:=nr rfl
theorem Am(i:Nat)(d:D)(x:Option S)(ρ:av):setV (i+1) d (x::ρ)=x::setV i d ρ:=nr rfl
theorem oX(ρ:av):kill [] ρ=ρ:=nr rfl
theorem mF(i:Nat)(is:List Nat)(ρ:av):kill (i::is) ρ=kill is (ρ.set i none):=nr rfl
theorem pC(B:cx)(n:Nat)(a:D):bv B 1 n [a]=B K0 (env0 n [a]):=nr rfl
theorem ga(B:cx)(n:Nat)(a b:D):bv B 2 n [a,b]=B K0 (env0 n [a,b]):=nr rfl
theorem pF(B:cx)(n:Nat)(a b c:D):bv B 3 n [a,b,c]=B K0 (env0 n [a,b,c]):=nr rfl
theorem yz(B:cx)(n:Nat)(a b c d:D):bv B 4 n [a,b,c,d]=B K0 (env0 n [a,b,c,d]):=nr rfl
theorem C9(B:cx)(n:Nat)(a b c d e:D):bv B 5 n [a,b,c,d,e]=B K0 (env0 n [a,b,c,d,e]):=nr rfl
theorem pE(ρ:av):inB [] ρ=[]:=nr rfl
theorem mj(ix:List (Option Nat))(ρ:av):inB (none::ix) ρ=none::inB ix ρ:=nr rfl
def pick(ρ:av)(i:Nat):Option S:=match ρ[i]? with
 |some (some (.val d))=>some (.val d)
 |_=>none
theorem mH(i:Nat)(ix:List (Option Nat))(ρ:av):inB (some i::ix) ρ=pick ρ i::inB ix ρ:=nr rfl
theorem AH(d:D)(ρ:av):pick (some (.val d)::ρ) 0=some (.val d):=rfl
theorem zZ(x:Option S)(ρ:av)(i:Nat):pick (x::ρ) (i+1)=pick ρ i:=by
 unfold pick;rw[Ol]
theorem mV(i:Nat)(f:FX)(k:Ks)(ρ:av):li i f k ρ=sL (f ρ) k ρ λd=>k.nx (ρ.set i (some (.own d))):=nr rfl
theorem nc(i:Nat)(F:cx)(k:Ks)(ρ:av):ic i F k ρ=F k (frz i ρ):=nr rfl
theorem As(d:D)(ρ:av):frz 0 (some (.own d)::ρ)=some (.val d)::ρ:=nr rfl
theorem ua(d:D)(ρ:av):frz 0 (some (.val d)::ρ)=some (.val d)::ρ:=nr rfl
theorem AJ(i:Nat)(x:Option S)(ρ:av):frz (i+1) (x::ρ)=x::frz i ρ:=by
 unfold frz;rw[Ol];split<;>rename_i h
 ·rw[h];rfl
 ·rfl
theorem kr(i:Nat)(u:List D->List D->Option (List D))(f:av->R (List D))(k:Ks)(ρ:av){xs:List D}(h:ρ[i]?=some (some (.own (.lst xs)))):yf i u f k ρ=sL (f ρ) k ρ λds=>(rO (u xs ds)).bind λys=>k.nx (ρ.set i (some (.own (.lst ys)))):=by
 unfold yf;rw[h]
theorem kE{xs:List D}{y:D}(h:xs.length<100000):fE xs [y]=some (xs++[y]):=by
 show(if small (xs.length+1)then some (xs++[y])else none)=_;rw[dR ‹0›];rfl
theorem qb(i j:Int):bS (.int i) (.int j)=some (.int (i+j)):=nr rfl
theorem pN(i j:Int):TG.xX (.int i) (.int j)=some (.int (i-j)):=nr rfl
theorem ux(i j:Int):MF (.int i) (.int j)=some (.bl (decide (i<j))):=nr rfl
theorem pD(i j:Int):p3 (.int i) (.int j)=some (.bl (decide (i<j))):=nr rfl
theorem o7(x y:Str):p3 (.str x) (.str y)=some (.bl (decide (x.cps.toList<y.cps.toList))):=nr rfl
theorem pQ(c d:Bool):Lg (.bl c) (.bl d)=some (.bl (c==d)):=nr rfl
theorem iQ(c d:Bool):Ed (.bl c) (.bl d)=some (.bl (!(c==d))):=nr rfl
theorem t9(i j:Int):MH (.int i) (.int j)=some (.bl (decide (i<=j))):=nr rfl
theorem uG(i j:Int):Gk (.int i) (.int j)=some (.bl (decide (j<i))):=nr rfl
theorem ub(i j:Int):MA (.int i) (.int j)=some (.bl (decide (j<=i))):=nr rfl
theorem pL(i:Int):Gs (.int i)=some (.int (-i)):=nr rfl
theorem eY{i j:Int}(h:0<j):cw (.int i) (.int j)=some (.int (i%j)):=by
 show(if decide (0<j)then some (D.int (i%j))else none)=_;rw[decide_eq_true h];rfl
theorem lY{i j:Int}(h:0<j)(h':j<10^200):cW (.int i) (.int j)=some (.int (i/j)):=by
 show(if decide (0<j/\j<10^200)then some (D.int (i/j))else none)=_;rw[decide_eq_true ⟨h,h'⟩];rfl
theorem qA{i j:Int}(h:-(2^64)<i)(h':i<2^64):oH (.int i) (.int j)=some (.int (i*j)):=by
 show(if decide ((-(2^64)<i/\i<2^64)\/(-(2^64)<j/\j<2^64))then some (D.int (i*j))else none)=_;rw[decide_eq_true (.inl ⟨h,h'⟩)];rfl
theorem qz{i j:Int}(h:-(2^64)<j)(h':j<2^64):oH (.int i) (.int j)=some (.int (i*j)):=by
 show(if decide ((-(2^64)<i/\i<2^64)\/(-(2^64)<j/\j<2^64))then some (D.int (i*j))else none)=_;rw[decide_eq_true (.inr ⟨h,h'⟩)];rfl
theorem uR(i:Int)(n:Nat)(h:n<=1000000)(h':i.natAbs<2^64):jG (.int i) (.int n)=some (.int (i^n)):=by
 show(if decide (0<=(n:Int)/\(n:Int)<=1000000/\i.natAbs<2^64)then some (D.int (i^(n:Int).toNat))else none)=_;rw[decide_eq_true ⟨by omega,by omega,h'⟩];rfl
theorem C4:jG (.int 10) (.int 59)=some (.int (10^59)):=uR 10 59 (by decide) (by decide)
def Bj:Int:=10^59
def MI:Int:=10^60
theorem Fu:1000000<Bj/\Bj*10=MI:=by decide +kernel
theorem yn:jG (.int 10) (.int 59)=some (.int Bj):=C4
theorem jJ(i j:Int):lg (.int i) (.int j)=some (.bl (i==j)):=by unfold lg pyEq;rfl
theorem jX(i j:Str):lg (.str i) (.str j)=some (.bl (i==j)):=by unfold lg pyEq;rfl
theorem jC(i j:Bool):lg (.bl i) (.bl j)=some (.bl (i==j)):=by unfold lg pyEq;rfl
theorem jx(i j:Int):vR (.int i) (.int j)=some (.bl (!(i==j))):=by unfold vR pyEq;rfl
theorem jU(i j:Str):vR (.str i) (.str j)=some (.bl (!(i==j))):=by unfold vR pyEq;rfl
theorem jL(i j:Bool):vR (.bl i) (.bl j)=some (.bl (!(i==j))):=by unfold vR pyEq;rfl
theorem Ge{α:Type}(xs:List α)(n:Nat):oa xs (n:Int)=xs[n]?:=by
 unfold oa E5;rw[if_pos ‹0›];by_cases h:n<xs.length
 ·rw[if_pos ‹0›];rfl
 ·rw[if_neg ‹0›,OS ‹0›];rfl
theorem Bn{α:Type}(a:α)(xs:List α):oa (a::xs) 0=some a:=Ge (a::xs) 0
theorem Bm{α:Type}(a:α)(xs:List α)(n:Nat):oa (a::xs) ((n+1:Nat):Int)=oa xs (n:Int):=by
 rw[Ge,Ge,Ol]
theorem Jg(xs:List D)(i:Int):aA (.tup xs) (.int i)=oa xs i:=nr rfl
theorem Gg(xs:List D)(i:Int):aA (.lst xs) (.int i)=oa xs i:=nr rfl
theorem ra(a:D)(xs:List D):aA (.tup (a::xs)) (.int 0)=some a:=Bn a xs
theorem uh(a b:D)(xs:List D):aA (.tup (a::b::xs)) (.int 1)=some b:=(Bm a _ 0).trans (Bn b xs)
theorem uP(a b c:D)(xs:List D):aA (.tup (a::b::c::xs)) (.int 2)=some c:=(Bm a _ 1).trans ((Bm b _ 0).trans (Bn c xs))
theorem tP(a:D)(xs:List D):aA (.lst (a::xs)) (.int 0)=some a:=Bn a xs
theorem tZ(a b:D)(xs:List D):aA (.lst (a::b::xs)) (.int 1)=some b:=(Bm a _ 0).trans (Bn b xs)
theorem tO(a b c:D)(xs:List D):aA (.lst (a::b::c::xs)) (.int 2)=some c:=(Bm a _ 1).trans ((Bm b _ 0).trans (Bn c xs))
theorem jK(xs:List D):fw [.lst xs]=some (.int xs.length):=nr rfl
theorem jF(xs:List D):fw [.tup xs]=some (.int xs.length):=nr rfl
theorem gG(xs:List D):cC [.lst xs]=some (.tup xs):=nr rfl
theorem gV(xs:List D):cC [.tup xs]=some (.tup xs):=nr rfl
theorem oY(b:Bool):LN (.bl b)=some b:=nr rfl
theorem iL(i:Int):yi (.int i)=some (some i):=nr rfl
theorem gr(b:Bool):truth (.bl b)=some b:=nr rfl
theorem gz(xs:List D):truth (.tup xs)=some (!xs.isEmpty):=nr rfl
theorem gQ(xs:List D):truth (.lst xs)=some (!xs.isEmpty):=nr rfl
theorem iU(i j:Int):nM [.int i,.int j]=some (.int (if j>i then j else i)):=nr rfl
theorem ju(i j:Int):qg [.int i,.int j]=some (.int (if j<i then j else i)):=nr rfl
theorem C7(b:Bool):zJ [.bl b]=some (.int (if b then 1 else 0)):=nr rfl
theorem gU(xs:List D):rz (.lst xs)=some xs:=nr rfl
theorem gA(xs:List D):rz (.tup xs)=some xs:=nr rfl
theorem jN(k:R D):yj (.bl true) k=k:=nr rfl
theorem jW(k:R D):yj (.bl false) k=.ok (.bl false):=nr rfl
theorem mO(k:R D):JE (.bl true) k=.ok (.bl true):=nr rfl
theorem my(k:R D):JE (.bl false) k=k:=nr rfl
theorem jM(a b:Bool):yj (.bl a) (.ok (.bl b))=.ok (.bl (a&&b)):=by cases a<;>rfl
theorem mS(a b:Bool):JE (.bl a) (.ok (.bl b))=.ok (.bl (a||b)):=by cases a<;>rfl
theorem pJ(b:Bool):wu (.bl b)=some (.bl (!b)):=nr rfl
theorem oZ(xs:List D):G0 (.lst xs)=some (.lst xs.reverse):=nr rfl
theorem jH(n:Nat)(h:n<2^62):kI [.int n]=some (dM 0 n):=by
 show(if okR (n:Int)then some (dM 0 ((n:Int).toNat))else none)=_
 have:okR (n:Int)=true:=decide_eq_true ⟨by omega,by omega⟩
 rw[this];rfl
theorem Dz{xs:List D}(h:xs.length<=100000):kQ xs=some (.lst xs):=by unfold kQ;rw[dR h];rfl
theorem zV{α:Type}(f:α->D)(h:∀a,pl (f a)=true):∀xs:List α,lr (xs.map f)=true
 |[]=>rfl
 |x::xs=>by
  show(pl (f x)&&lr (xs.map f))=true;rw[h,zV f h xs];rfl
theorem Ef(f:Str->D)(hf:f=D.str)(w:Str)(ws:List Str):inD (.str w) (ws.map f)=ws.any λy=>y==w:=by
 subst hf;unfold inD;rw[OM];congr 1
theorem zQ(w:Str)(ws:List Str):AV (.str w) (.tup (ws.map .str))=some (.bl (ws.contains w)):=by
 show(if(pl (.str w)&&lr (ws.map .str))&&dH 8 (.str w)then some (D.bl (inD (.str w) (ws.map .str)))else none)=_;rw[Ef _ rfl,zV _ λ_=>rfl];show some (D.bl _)=_;congr 2
 induction ws with
 |nil=>rfl
 |cons x xs ih=>rw[NB,Ou,ih,Bool.beq_comm]
theorem Ej(w:Str)(ws:List Str):AV (.str w) (.lst (ws.map .str))=some (.bl (ws.contains w)):=zQ w ws
theorem CJ(xs ys:List D)(h:xs.length+ys.length<=100000):bS (.lst xs) (.lst ys)=some (.lst (xs++ys)):=by
 show(if small (xs.length+ys.length)then some (D.lst (xs++ys))else none)=_;rw[dR h];rfl
theorem e6(xs ys:List D)(h:xs.length+ys.length<=100000):bS (.tup xs) (.tup ys)=some (.tup (xs++ys)):=by
 show(if small (xs.length+ys.length)then some (D.tup (xs++ys))else none)=_;rw[dR h];rfl
theorem mQ(xs:List D)(lo hi:Option Int):sF (.lst xs) lo hi=some (.lst (cutD xs lo hi)):=nr rfl
theorem mN(xs:List D)(lo hi:Option Int):sF (.tup xs) lo hi=some (.tup (cutD xs lo hi)):=nr rfl
theorem eR{ix:List (Option Nat)}{G:av->R (List D)}{g:GF}{C:av->R Bool}{Fe:FX}{ρ:av}{ds r:List D}(h1:G ρ=.ok ds)(h2:ds.length<=100000)(h3:Ak (inB ix ρ) g C Fe ds=.ok r):gg ix G g C Fe ρ=.ok (.lst r):=by
 unfold gg;rw[h1,dY,dR h2,h3];rfl
theorem jZ{α:Type}{ρ:av}{g:GF}{C:av->R Bool}{Fe:FX}(mk:α->D)(p:α->Bool)(v:α->D):∀xs:List α,(∀a∈xs,∃ρ1,g (mk a) ρ=some ρ1/\C ρ1=.ok (p a)/\Fe ρ1=.ok (v a))->
  Ak ρ g C Fe (xs.map mk)=.ok ((xs.filter p).map v)
 |[],_=>rfl
 |a::xs,h=>by
  obtain⟨ρ1,h1,h2,h3⟩:=h a MV;rw[Ny,oJ,h1,e7,dY,h2,kR,dY,h3,kR,dY,jZ mk p v xs λb hb=>h b (MX _ hb)];cases e:p a with
  |true=>rw[if_pos rfl,OD e];rfl
  |false=>rw[if_neg M9,OG (by simp[e])]
theorem oz{α:Type}{ρ:av}{g:GF}{C:av->R Bool}{Fe:FX}(mk:α->D)(v:α->D)(xs:List α)(h:∀a∈xs,∃ρ1,g (mk a) ρ=some ρ1/\C ρ1=.ok true/\Fe ρ1=.ok (v a)):Ak ρ g C Fe (xs.map mk)=.ok (xs.map v):=by
 rw[jZ mk (λ_=>true) v xs h,List.filter_eq_self.mpr λ_ _=>rfl]
theorem zO{g:GF}{B:cx}{k:Ks}(Iv:Nat->av->Prop):∀(ds:List D)(i:Nat)(ρ:av),(∀j d ρ (k':Ks),i<=j->ds[j-i]?=some d->Iv j ρ->∃ρ1 ρ2,g d ρ=some ρ1/\Iv (j+1) ρ2/\B k' ρ1=k'.nx ρ2)->Iv i ρ->∃ρ',Iv (i+ds.length) ρ'/\iu g B k ds ρ=k.nx ρ'
 |[],i,ρ,_,h=>⟨ρ,h,rfl⟩
 |d::ds,i,ρ,st,h=>by
  obtain⟨ρ1,ρ2,e1,h2,e2⟩:=st i d ρ ⟨iu g B k ds,k.nx,iu g B k ds,k.ex⟩ (M3 _) (by rw[O0];rfl) h;obtain⟨ρ',h3,e3⟩:=zO (g:=g) (B:=B) (k:=k) Iv ds (i+1) ρ2 (λj d' ρ k' hj hd=>st j d' ρ k' ‹0› (by rw[show j-i=(j-(i+1))+1 by omega,Ol];exact hd)) h2;refine⟨ρ',?_,?_⟩
  ·rw[NE]
   have:i+(ds.length+1)=i+1+ds.length:=(by omega);rw[this];exact h3
  ·show((rO (g d ρ)).bind λρ1=>B ⟨iu g B k ds,k.nx,iu g B k ds,k.ex⟩ ρ1)=_;rw[e1,e7,dY,e2];exact e3
theorem dC{g:GF}{B:cx}{k:Ks}{ds:List D}{ρ:av}{Q:R D->Prop}(Iv:Nat->av->Prop)(st:∀i d ρ (k':Ks),ds[i]?=some d->Iv i ρ->∃ρ1 ρ2,g d ρ=some ρ1/\Iv (i+1) ρ2/\B k' ρ1=k'.nx ρ2)(h:Iv 0 ρ)(q:∀ρ',Iv ds.length ρ'->Q (k.nx ρ')):Q (iu g B k ds ρ):=by
 obtain⟨ρ',h1,e⟩:=zO (k:=k) Iv ds 0 ρ (λj d ρ k' _ hd=>st j d ρ k' hd) h;rw[e];rw[Ot]at h1;exact q ρ' h1
theorem cm{α:Type}{xs:List α}{i:Nat}{a:α}(h:xs[i]?=some a):i<xs.length:=by
 rcases OQ i xs.length with z|z
 ·exact z
 ·rw[OS z]at h;cases h
theorem uV{α β:Type}(f:α->β)(xs:List α)(i:Int):oa (xs.map f) i=(oa xs i).map f:=by
 unfold oa;rw[Nq];cases E5 xs.length i with
 |none=>rfl
 |some j=>simp
theorem rh{α:Type}{xs:List α}{k:Nat}(h:k<xs.length):oa xs (k:Int)=some xs[k]:=by
 unfold oa E5;rw[if_pos ‹0›,if_pos ‹0›];simp[h]
theorem mz{α:Type}{xs:List α}{i:Int}(h0:0<=i)(h:i<xs.length):oa xs i=some (xs[i.toNat]'‹0›):=by
 have e:i=((i.toNat:Nat):Int):=by omega
 conv=>lhs;rw[e]
 exact rh ‹0›
def Fs:cx:=aH (ik (fB (f2 p3 (af 1) (fL fw (ah (af 0) (aw))))) (bI (f2 aA (af 0) (af 1))) (bZ)) (bI (fC (.int 0)))
theorem DU(ns:List Int)(k:Nat):bv Fs 2 2 [.lst (ns.map .int),.int k]=.ok (.int (ns.getD k 0)):=by
 show(if decide ((k:Int)<((ns.map D.int).length:Int))then sL (rO (oa (ns.map D.int) (k:Int))) _ _ .ok else .ok (.int 0))=_;rw[Nq];by_cases h:k<ns.length
 ·rw[if_pos (by simpa using h),uV,rh h,Option.map_some,OJ,NY h];rfl
 ·rw[if_neg (by simpa using h),OJ,OS ‹0›];rfl
theorem BM(ns:List Int)(i:Int)(h:0<=i):∃c:Int,bv Fs 2 2 [.lst (ns.map .int),.int i]=.ok (.int c):=by
 have e:i=((i.toNat:Nat):Int):=by omega
 exact⟨ns.getD i.toNat 0,by rw[e];exact DU ns i.toNat⟩
theorem zv(x y:Str):(x++y).length=x.length+y.length:=by
 show(x.cps++y.cps).size=_;rw[Array.size_append];rfl
theorem ia(x y:Str)(h:x.length<=1000)(h':y.length<=1000):bS (.str x) (.str y)=some (.str (x++y)):=by
 show(if small (x.length+y.length)then some (D.str (x++y))else none)=_;rw[dR ‹0›];rfl
theorem qy(x:Str)(h:x.length<=1000)(i:Int)(h0:0<=i)(h1:i<x.length):∃y:Str,y.length=1/\aA (.str x) (.int i)=some (.str y):=by
 have hl:x.cps.toList.length=x.length:=by simp[Str.length]
 have hi:i<x.cps.toList.length:=by omega
 refine⟨⟨#[x.cps.toList[i.toNat]'‹0›]⟩,rfl,?_⟩;show(if small x.length then(oa x.cps.toList i).bind λc=>some (D.str ⟨#[c]⟩)else none)=_;rw[dR ‹0›,if_pos rfl,mz h0 hi];rfl
theorem gK(lo:Int)(n:Nat):dM lo n=(List.range n).map λ(k:Nat)=>D.int (lo+(k:Int)):=nr rfl
theorem cz(lo:Int)(n:Nat):(dM lo n).length=n:=by unfold dM;rw[Nq,N7]
theorem dQ{α:Type}(xs:List α)(m:Nat):cutD xs none (some (m:Int))=xs.take m:=by
 unfold cutD;rw[HT.IY,HT.J1,NV,N9];rcases OV m xs.length with h|h
 ·rw[OW h]
 ·rw[OX h,OT h,OT (M3 _)]
theorem qT{α:Type}(xs:List α)(m:Nat):cutD xs (some (m:Int)) none=xs.drop m:=by
 unfold cutD;rw[HT.IY,HT.J1];rcases OV m xs.length with h|h
 ·rw[OW h];exact OT (by rw[Nt];exact M3 _)
 ·rw[OX h,O0,NT,List.drop_eq_nil_of_le h]
theorem vq(ρ:av):tG ρ=.ok (.dct [] []):=nr rfl
theorem qU(q:List Key):jq (.tup (q.map bN))=some q:=cA q
theorem D5{i:Nat}{fk fv:FX}{k:Ks}{ρ:av}{al:List (List Key×D)}{q:List Key}{v:D}(h:ρ[i]?=some (some (.own (eT al))))(ek:fk ρ=.ok (.tup (q.map bN)))(ev:fv ρ=.ok v)(hl:al.length<=100000):tX i fk fv k ρ=k.nx (ρ.set i (some (.own (eT (iA al q v))))):=by
 have e:uC (encK al) (al.map (·.2)) (.tup (q.map bN)) v=some (iA al q v):=by
  unfold uC;rw[om];show(jq (.tup (q.map bN))).bind _=_;rw[qU];show(if small al.length then _ else _)=_;rw[dR hl];rfl
 unfold tX;rw[h];show sL ((fv ρ).bind λv=>(fk ρ).bind λq=>rO (uC (encK al) (al.map (·.2)) q v)) k ρ _=_;rw[ev,dY,ek,dY,e];rfl
local macro_rules
 |`(tactic| simp! only[$xs,*])=>`(tactic| simp only[dY,uN,q5,uD,kR,e7,ge_0,A2,pS,Au,pU,nh,pj,pT,Aw,AD,Bh,Aq,A5,oU,pA,tU,jV,mK,p6,mP,ue,pc,pW,mY,o4,jO,p4,jE,jR,iP,iO,pX,mB,iM,ng,jI,mh,mZ,iI,mi,jQ,nN,mU,jA,jb,mV,nc,As,ua,AJ,Af,Am,oX,mF,pE,mj,mH,AH,zZ,O1,O2,Ny,Nx,NS,N4,K0,env0,List.replicate,O3,Nf,Ot,Nat.reduceAdd,Nat.reduceSub,NE,NF,qb,pN,ux,pD,o7,pQ,iQ,o3,t9,uG,ub,pL,jJ,jX,jC,jx,jU,jL,ra,uh,uP,tP,tZ,tO,jK,jF,gG,gV,oY,iL,gr,gz,gQ,iU,ju,gU,gA,jN,jW,mO,my,jM,mS,pJ,oZ,mQ,mN,gN,if_true,if_false,O5,O6,NQ,$xs,*])
theorem HM(a b c:D):xA [a,b,c]=some (.tup [a,b,c]):=nr rfl
theorem uS(a b:D):xA [a,b]=some (.tup [a,b]):=nr rfl
theorem MK:xA []=some (.tup []):=nr rfl
theorem Hx:kQ []=some (.lst []):=nr rfl
def wq(m:Nat)(rows:List (List D)):Prop:=rows.Pairwise λr s=>eK (r.take m) (s.take m)=some true
theorem Do{ρ:av}{g:GF}{C:av->R Bool}{Fe:FX}:∀(ds:List D)(P:Nat->D->Prop),(∀i d,ds[i]?=some d->∃ρ1 v,g d ρ=some ρ1/\C ρ1=.ok true/\Fe ρ1=.ok v/\P i v)->∃vs:List D,vs.length=ds.length/\(∀i v,vs[i]?=some v->P i v)/\Ak ρ g C Fe ds=.ok vs
 |[],_,_=>⟨[],rfl,(λ_ _ h=>nomatch h),rfl⟩
 |d::ds,P,h=>by
  obtain⟨ρ1,w,h1,h2,h3,h4⟩:=h 0 d rfl;obtain⟨ws,e1,e2,e3⟩:=Do (ρ:=ρ) (g:=g) (C:=C) (Fe:=Fe) ds (λi v=>P (i+1) v) λi d' hd=>h (i+1) d' (by rw[Ol];exact hd);refine⟨w::ws,by rw[NE,NE,e1],λi v hv=>?_,?_⟩
  ·cases i with
   |zero=>cases hv;exact h4
   |succ i=>rw[Ol]at hv;exact e2 i v hv
  ·rw[oJ,h1,e7,dY,h2,kR,dY,h3,kR,dY,e3];rfl
theorem wR:∀{σ:List Bool}{a:List D},Sh σ a->lr a=true
 |_,_,.nil=>rfl
 |_,_,.int i h=>by
  show(pl (.int i)&&lr _)=true;rw[wR h];rfl
 |_,_,.str i h=>by
  show(pl (.str i)&&lr _)=true;rw[wR h];rfl
theorem yL:∀{σ:List Bool}{a:List D}(n:Nat),Sh σ a->a.all (dH (n+1))=true
 |_,_,_,.nil=>rfl
 |_,_,n,.int i h=>by rw[NX,yL n h];rfl
 |_,_,n,.str i h=>by rw[NX,yL n h];rfl
theorem Hr{σ:List Bool}{a b:List D}(h:Sh σ a)(h':Sh σ b):p3 (.tup a) (.tup b)=some (.bl (kLt a b)):=by
 show(if nJ a&&nJ b then(eK a b).bind λr=>some (D.bl r)else none)=_;rw[mM h,mM h'];show((eK a b).bind λr=>some (D.bl r))=_;unfold kLt;rcases j9 h h' with⟨e,_⟩|e|⟨_,e,_⟩
 ·rw[e];rfl
 ·subst e;rw[kc h];rfl
 ·rw[e];rfl
end TG
namespace TD
open PySem PySem.Spec L2 TG TX
def dF:cx:=aH (ik (fB (f2 p3 (af 1) (fL fw (ah (af 0) (aw))))) (bI (f2 aA (af 0) (af 1))) (bZ)) (bI (fC (.int 0)))
def aJ:cx:=bI (f2 cw (f2 bS (f2 bS (f2 oH (af 0) (af 0)) (f2 oH (fC (.int 48271)) (af 0))) (fC (.int 11))) (fC (.int 2147483647)))
def cU:cx:=aH (bG 2 (f2 cw (f2 bS (f2 bS (f2 cw (fR (bv dF 2 2) (ah (af 0) (ah (af 1) (aw)))) (fC (.int 2147483647))) (f2 oH (f2 oH (fC (.int 69621)) (af 1)) (af 1))) (fC (.int 5))) (fC (.int 2147483647)))) (bI (fR (bv aJ 1 1) (ah (fR (bv aJ 1 1) (ah (af 2) (aw))) (aw))))
def ca:cx:=aH (bG 2 (fC (.str "abcdefghijklmnopqrstuvwxyz"))) (aH (bG 1 (f2 cw (f2 bS (f2 oH (af 1) (f2 aA (gh (ah (fC (.int 1)) (ah (fC (.int 5)) (ah (fC (.int 7)) (ah (fC (.int 11)) (ah (fC (.int 13)) (ah (fC (.int 23)) (aw)))))))) (f2 cw (af 0) (fC (.int 6))))) (f2 cW (af 0) (fC (.int 6)))) (fC (.int 24)))) (aH (bG 0 (f2 cW (af 0) (fC (.int 144)))) (aH (ik (fB (f2 lg (f2 cw (af 0) (fC (.int 3))) (fC (.int 0)))) (bI (f2 rV (f2 aA (af 2) (f2 cw (f2 bS (f2 cW (af 0) (fC (.int 3))) (f2 cW (af 1) (fC (.int 8)))) (fC (.int 26)))) (f2 bS (fC (.int 1)) (f2 cw (af 1) (fC (.int 8)))))) (bZ)) (aH (bG 3 (f2 bS (fC (.int 1)) (f2 cw (f2 cW (af 0) (fC (.int 3))) (fC (.int 8))))) (aH (bG 4 (fC (.str ""))) (aH (fT (fM (ah (af 3) (aw))) (gN 5) (aH (bG 6 (f2 cW (af 0) (f2 bS (fC (.int 24)) (f2 oH (f2 oH (fC (.int 11)) (af 5)) (af 5))))) (aH (ik (fB (f2 lg (af 5) (f2 cw (f2 cW (af 0) (fC (.int 24))) (af 3)))) (bG 6 (f2 bS (af 6) (af 1))) (bZ)) (aH (bG 4 (f2 bS (af 4) (f2 aA (af 2) (f2 cw (af 6) (fC (.int 26)))))) (cD [5,6] bZ))))) (bI (af 4))))))))
noncomputable def cR:cx:=aH (ik (fB (f2 p3 (f2 cw (af 0) (fC (.int 3))) (fC (.int 2)))) (aH (bG 1 (f2 aA (gh (ah (fC (.int 0)) (ah (C5 (fC (.int 3))) (ah (f2 xX (fC (.int 0)) (f2 cw (f2 jG (af 0) (fC (.int 7))) (f2 jG (fC (.int 10)) (fC (.int 59))))) (ah (f2 cw (f2 jG (af 0) (fC (.int 7))) (f2 jG (fC (.int 10)) (fC (.int 59)))) (aw)))))) (f2 cw (f2 cW (af 0) (fC (.int 3))) (fC (.int 4))))) (bI (cF (ah (fC (.str "number")) (ah (af 1) (ah (f2 bS (af 1) (f2 aA (gh (ah (fC (.int 0)) (ah (fC (.int 1)) (ah (fC (.int 6)) (ah (f2 jG (fC (.int 10)) (fC (.int 59))) (aw)))))) (f2 cw (f2 cW (af 0) (fC (.int 12))) (fC (.int 4))))) (aw))))))) (bZ)) (aH (bG 2 (fC (.str "abcdefghijklmnopqrstuvwxyz"))) (aH (bG 3 (f2 aA (af 2) (f2 cw (f2 cW (af 0) (fC (.int 3))) (fC (.int 26))))) (aH (bG 4 (f2 aA (af 2) (f2 cw (f2 cW (af 0) (fC (.int 78))) (fC (.int 26))))) (aH (bG 5 (gh (ah (fC (.str "")) (ah (af 3) (ah (af 4) (ah (f2 bS (af 3) (af 4)) (ah (f2 bS (af 4) (af 3)) (ah (f2 rV (af 3) (fC (.int 8))) (ah (f2 bS (af 3) (af 3)) (ah (f2 rV (af 4) (fC (.int 3))) (aw))))))))))) (aH (li 6 tG) (cD [1,2,4] (aH (fT (fM (ah (fC (.int 8)) (aw))) (gN 7) (aH (ik (fB (f2 lg (f2 se (f2 yr (f2 cW (af 0) (fC (.int 2028))) (af 7)) (fC (.int 1))) (fC (.int 1)))) (nK 6 (f2 aA (af 5) (af 7)) (fC (.bl true))) (bZ)) (cD [7] bZ))) (aH (ik (lA [6] (fB (f2 lg (fL uw (ah (af 6) (aw))) (fC (.int 0))))) (nK 6 (af 3) (fC (.bl true))) (bZ)) (ic 6 (bI (cF (ah (fC (.str "word")) (ah (fL cC (ah (fL e9 (ah (fL lV (ah (af 6) (aw))) (aw))) (aw))) (aw))))))))))))))
open PySem PySem.Spec L2 TG
local macro_rules
 |`(tactic| simp! only[$xs,*])=>`(tactic| simp only[dY,uN,q5,uD,kR,e7,ge_0,A2,pS,Au,pU,nh,pj,pT,Aw,AD,Bh,Aq,A5,oU,pA,tU,jV,mK,p6,mP,ue,pc,pW,mY,o4,jO,p4,jE,jR,iP,iO,pX,mB,iM,ng,jI,mh,mZ,iI,mi,jQ,nN,mU,jA,jb,mV,nc,As,ua,AJ,Af,Am,oX,mF,pE,mj,mH,AH,zZ,O1,O2,Ny,Nx,NS,N4,K0,env0,List.replicate,O3,Nf,Ot,Nat.reduceAdd,Nat.reduceSub,NE,NF,qb,pN,ux,pD,o7,pQ,iQ,o3,t9,uG,ub,pL,jJ,jX,jC,jx,jU,jL,ra,uh,uP,tP,tZ,tO,jK,jF,gG,gV,oY,iL,gr,gz,gQ,iU,ju,gU,gA,jN,jW,mO,my,jM,mS,pJ,oZ,mQ,mN,gN,if_true,if_false,O5,O6,NQ,$xs,*])
theorem Kc(ns:List Int)(i:Int)(h:0<=i):∃c:Int,bv dF 2 2 [.lst (ns.map .int),.int i]=.ok (.int c):=BM ns i h
theorem uE(xs ys:List D):yx [.tup xs,.tup ys]=some (kA xs ys):=nr rfl
local macro_rules
 |`(tactic| simp! only[$xs,*])=>`(tactic| simp only[dY,uN,q5,uD,kR,e7,ge_0,A2,pS,Au,pU,nh,pj,pT,Aw,AD,Bh,Aq,A5,oU,pA,tU,jV,mK,p6,mP,ue,pc,pW,mY,o4,jO,p4,jE,jR,iP,iO,pX,mB,iM,ng,jI,mh,mZ,iI,mi,jQ,nN,mU,jA,jb,mV,nc,As,ua,AJ,Af,Am,oX,mF,pE,mj,mH,AH,zZ,O1,O2,Ny,Nx,NS,N4,K0,env0,List.replicate,O3,Nf,Ot,Nat.reduceAdd,Nat.reduceSub,NE,NF,qb,pN,ux,pD,o7,pQ,iQ,o3,t9,uG,ub,pL,jJ,jX,jC,jx,jU,jL,ra,uh,uP,tP,tZ,tO,jK,jF,gG,gV,oY,iL,gr,gz,gQ,iU,ju,gU,gA,jN,jW,mO,my,jM,mS,pJ,oZ,mQ,mN,gN,if_true,if_false,O5,O6,NQ,$xs,*])
abbrev fld(p:Str×D):D:=.tup [.str p.1,p.2]
end TD
namespace T4
open PySem PySem.Spec L2 TG TD
local macro_rules
 |`(tactic| simp! only[$xs,*])=>`(tactic| simp only[dY,uN,q5,uD,kR,e7,ge_0,A2,pS,Au,pU,nh,pj,pT,Aw,AD,Bh,Aq,A5,oU,pA,tU,jV,mK,p6,mP,ue,pc,pW,mY,o4,jO,p4,jE,jR,iP,iO,pX,mB,iM,ng,jI,mh,mZ,iI,mi,jQ,nN,mU,jA,jb,mV,nc,As,ua,AJ,Af,Am,oX,mF,pE,mj,mH,AH,zZ,O1,O2,Ny,Nx,NS,N4,K0,env0,List.replicate,O3,Nf,Ot,Nat.reduceAdd,Nat.reduceSub,NE,NF,qb,pN,ux,pD,o7,pQ,iQ,o3,t9,uG,ub,pL,jJ,jX,jC,jx,jU,jL,ra,uh,uP,tP,tZ,tO,jK,jF,gG,gV,oY,iL,gr,gz,gQ,iU,ju,gU,gA,jN,jW,mO,my,jM,mS,pJ,oZ,mQ,mN,gN,if_true,if_false,O5,O6,NQ,$xs,*])
theorem BU{x:Str}{n:Int}(h:1<=n)(h':n<=1000)(hx:x.length<=1000):rV (.str x) (.int n)=some (.str (jB x n)):=by
 show(if decide (1<=n/\n<=1000/\x.length<=1000)then some (D.str (jB x n))else none)=_;rw[decide_eq_true ⟨h,h',hx⟩];rfl
theorem fW(x:Int)(h0:0<=x)(h1:x<2147483700):∃y:Int,0<=y/\y<2147483647/\bv aJ 1 1 [.int x]=.ok (.int y):=by
 have m1:=qA (i:=x) (j:=x) ‹0› ‹0›;have m2:=qA (i:=48271) (j:=x) (by decide) (by decide);have g:=λi=>eY (i:=i) (show(0:Int)<2147483647 by decide);refine⟨(x*x+48271*x+11)%2147483647,O7 _ (by decide),O8 _ (by decide),?_⟩;rw[pC];unfold aJ;simp! only[m1,m2,g]
theorem vv(ns:List Int)(k:Nat)(hk:k<=100):∃y:Int,0<=y/\y<2147483647/\bv cU 2 3 [.lst (ns.map .int),.int k]=.ok (.int y):=by
 obtain⟨c,ec⟩:=TD.Kc ns k ‹0›;have m1:=qA (i:=69621) (j:=(k:Int)) (by decide) (by decide);have m2:=qz (i:=69621*(k:Int)) (j:=(k:Int)) ‹0› ‹0›;have g:=λi=>eY (i:=i) (show(0:Int)<2147483647 by decide);obtain⟨y1,a1,b1,e1⟩:=fW ((c%2147483647+69621*(k:Int)*(k:Int)+5)%2147483647) (O7 _ (by decide)) (by have:=O8 (c%2147483647+69621*(k:Int)*(k:Int)+5) (show(0:Int)<2147483647 by decide);omega);obtain⟨y2,a2,b2,e2⟩:=fW y1 a1 ‹0›;refine⟨y2,a2,b2,?_⟩;rw[ga];unfold cU;simp! only[ec,g,m1,m2,e1,e2]
theorem vi{i:Nat}{fk fv:FX}{k:Ks}{ρ:av}{al:List (Key×D)}{q:Key}{d v:D}(h:ρ[i]?=some (some (.own (w8 al))))(ek:fk ρ=.ok d)(hd:d=bN q)(ev:fv ρ=.ok v)(hl:al.length<=1000):
  nK i fk fv k ρ=k.nx (ρ.set i (some (.own (w8 (qp al q v))))):=by
 subst hd;have e:uq (il al) (al.map (·.2)) (bN q) v=some (qp al q v):=by
  unfold uq;rw[tM];show(keyOf (bN q)).bind _=_;rw[kC];show(if small al.length then _ else _)=_;rw[dR ‹0›];rfl
 unfold nK;rw[h];show sL ((fv ρ).bind λv=>(fk ρ).bind λq=>rO (uq (il al) (al.map (·.2)) q v)) k ρ _=_;rw[ev,dY,ek,dY,e];rfl
abbrev zo(ws:List Str):List (Key×D):=ws.map λw=>((.inr w:Key),D.bl true)
abbrev wd(ws:List Str):D:=w8 (zo ws)
def pq(ws:List Str)(w:Str):List Str:=if w∈ws then ws else ws++[w]
theorem xS(ws:List Str)(w:Str):qp (zo ws) (.inr w) (.bl true)=zo (pq ws w):=by
 have e:((zo ws).any λp=>decide (p.1=(.inr w:Key)))=decide (w∈ws):=by
  induction ws with
  |nil=>simp
  |cons a ws ih=>
   show(decide ((.inr a:Key)=.inr w)||(zo ws).any λp=>decide (p.1=(.inr w:Key)))=_;rw[ih];by_cases z:a=w
   ·subst z;simp
   ·have z':¬(.inr a:Key)=.inr w:=λq=>z (Sum.inr.inj q);have z2:¬w=a:=λq=>z q.symm;simp[z',z2]
 unfold qp pq;rw[e];by_cases h:w∈ws
 ·rw[if_pos (by simpa using h),if_pos h];show(ws.map _).map _=_;rw[OL];refine N5 λa _=>?_;show(if(.inr a:Key)=.inr w then((.inr a:Key),D.bl true)else((.inr a:Key),D.bl true))=_;split<;>rfl
 ·rw[if_neg (by simpa using h),if_neg h];show _=(ws++[w]).map _;rw[N6];rfl
theorem vJ{ws:List Str}(w:Str)(h:ws.Nodup):(pq ws w).Nodup:=by
 unfold pq;split
 ·exact h
 ·rename_i z;exact List.nodup_append.mpr ⟨h,List.nodup_cons.mpr ⟨by simp,NM⟩,λa ha b hb e=>by
   rw[OU]at hb;subst hb e;exact z ha⟩
theorem qX(ws:List Str)(w:Str):(pq ws w).length<=ws.length+1:=by
 unfold pq;split
 ·omega
 ·simp
theorem FL(ws:List Str):il (zo ws)=ws.map D.str:=by
 show(ws.map _).map _=_;rw[OL];rfl
theorem Dq(ws:List Str):keysOf (il (zo ws))=some (ws.map .inr):=by
 rw[show il (zo ws)=(ws.map (.inr:Str->Key)).map bN from by rw[FL,OL];rfl];exact cA _
theorem DM(ws:List Str):uw [wd ws]=some (.int ws.length):=by
 show(keysOf (il (zo ws))).bind _=_;rw[Dq];show some (D.int ((ws.map _).length:Int))=_;rw[Nq]
theorem xL(ws:List Str):lV [wd ws]=some (.lst (ws.map .str)):=by
 show(keysOf (il (zo ws))).bind _=_;rw[Dq];show some (D.lst (il (zo ws)))=_;rw[FL]
theorem qS(is:List Nat)(f:av->R Bool)(ρ:av):lA is f ρ=Cu (f (frzs is ρ)):=nr rfl
theorem Gu(i:Nat)(ρ:av):frzs [i] ρ=frz i ρ:=nr rfl
theorem Cg(i:Int)(k:Nat):yr (.int i) (.int k)=some (.int (i/2^k)):=by
 show(if decide (0<=(k:Int))then some (D.int (i/2^(k:Int).toNat))else none)=_;rw[decide_eq_true ‹0›];rfl
theorem vP(i j:Int):se (.int i) (.int j)=some (.int (Builtin.bitAnd i j)):=nr rfl
theorem Iq(a b c d:D):kQ [a,b,c,d]=some (.lst [a,b,c,d]):=nr rfl
theorem Mb(a b c d e f g h:D):kQ [a,b,c,d,e,f,g,h]=some (.lst [a,b,c,d,e,f,g,h]):=nr rfl
theorem MD(a b c d:D)(i:Int)(h0:0<=i)(h1:i<4):∃x∈[a,b,c,d],aA (.lst [a,b,c,d]) (.int i)=some x:=by
 rcases(show i=0\/i=1\/i=2\/i=3 by omega)with z|z|z|z<;>subst z
 ·exact⟨a,by simp,rfl⟩
 ·exact⟨b,by simp,rfl⟩
 ·exact⟨c,by simp,rfl⟩
 ·exact⟨d,by simp,rfl⟩
theorem GW(B:cx)(n:Nat)(a b c d e f:D):bv B 6 n [a,b,c,d,e,f]=B K0 (env0 n [a,b,c,d,e,f]):=nr rfl
theorem mX{α:Type}{ρ:av}{g:GF}{C:av->R Bool}{Fe:FX}(mk:α->D)(p:α->Bool)(v:α->D):∀xs:List α,(∀a∈xs,∃ρ1,g (mk a) ρ=some ρ1/\C ρ1=.ok (p a)/\(p a=true->Fe ρ1=.ok (v a)))->
  Ak ρ g C Fe (xs.map mk)=.ok ((xs.filter p).map v)
 |[],_=>rfl
 |a::xs,h=>by
  obtain⟨ρ1,h1,h2,h3⟩:=h a MV;rw[Ny,oJ,h1,e7,dY,h2,kR,dY,mX mk p v xs λb hb=>h b (MX _ hb)];cases e:p a with
  |true=>rw[if_pos rfl,h3 e,kR,dY,OD e];rfl
  |false=>rw[if_neg M9,OG (by simp[e])]
def mx(a b:Int):Int:=if b>a then b else a
local macro_rules
 |`(tactic| simp! only[$xs,*])=>`(tactic| simp only[dY,uN,q5,uD,kR,e7,ge_0,A2,pS,Au,pU,nh,pj,pT,Aw,AD,Bh,Aq,A5,oU,pA,tU,jV,mK,p6,mP,ue,pc,pW,mY,o4,jO,p4,jE,jR,iP,iO,pX,mB,iM,ng,jI,mh,mZ,iI,mi,jQ,nN,mU,jA,jb,mV,nc,As,ua,AJ,Af,Am,oX,mF,pE,mj,mH,AH,zZ,O1,O2,Ny,Nx,NS,N4,K0,env0,List.replicate,O3,Nf,Ot,Nat.reduceAdd,Nat.reduceSub,NE,NF,qb,pN,ux,pD,o7,pQ,iQ,o3,t9,uG,ub,pL,jJ,jX,jC,jx,jU,jL,ra,uh,uP,tP,tZ,tO,jK,jF,gG,gV,oY,iL,gr,gz,gQ,iU,ju,gU,gA,jN,jW,mO,my,jM,mS,pJ,oZ,mQ,mN,gN,if_true,if_false,O5,O6,NQ,$xs,*])
def LT:List Nat:=("abcdefghijklmnopqrstuvwxyz":Str).cps.toList
theorem B1:∀a<26,∀b<26,LT[a]?=LT[b]?->a=b:=by decide +kernel
def stp(b:Int):Int:=([1,5,7,11,13,23]:List Int).getD (b%6).toNat 0
def kk(b k:Int):Int:=(k*stp b+b/6)%24
def jz(b:Int):Int:=b/144/24%(1+b/144/3%8)
def xR(b k:Int)(w:Str):Prop:=
 (b/144%3=0->w.length=(1+kk b k%8).toNat/\w.cps.toList[0]?=LT[((b/144/3+kk b k/8)%26).toNat]?)/\
 (b/144%3≠0->w.cps.toList[(jz b).toNat]?=LT[((b/144/(24+11*jz b*jz b)+kk b k)%26).toNat]?)
theorem Je(b k:Int):0<=kk b k/\kk b k<24:=⟨O7 _ (by decide),O8 _ (by decide)⟩
theorem Gy{b k1 k2:Int}(a1:0<=k1)(a2:k1<24)(b1:0<=k2)(b2:k2<24)(h:kk b k1=kk b k2):k1=k2:=by
 unfold kk stp at h;rcases(show b%6=0\/b%6=1\/b%6=2\/b%6=3\/b%6=4\/b%6=5 by omega)with z|z|z|z|z|z<;>rw[z]at h<;>simp at h<;>omega
theorem DT{b k1 k2:Int}{w:Str}(a1:0<=k1)(a2:k1<24)(b1:0<=k2)(b2:k2<24)(h1:xR b k1 w)(h2:xR b k2 w):k1=k2:=by
 refine Gy (b:=b) a1 a2 b1 b2 ?_;have q1:=Je b k1;have q2:=Je b k2;by_cases z:b/144%3=0
 ·obtain⟨l1,e1⟩:=h1.1 z;obtain⟨l2,e2⟩:=h2.1 z
  have:=B1 _ ‹0› _ ‹0› (e1.symm.trans e2)
  omega
 ·have:=B1 _ ‹0› _ ‹0› ((h1.2 z).symm.trans (h2.2 z))
  omega
theorem yW(x:Str)(h:x.length<=1000)(i:Int)(h0:0<=i)(h1:i<x.length):∃y:Str,y.length=1/\y.cps.toList[0]?=x.cps.toList[i.toNat]?/\aA (.str x) (.int i)=some (.str y):=by
 have hl:x.cps.toList.length=x.length:=by simp[Str.length]
 have hi:i<x.cps.toList.length:=by omega
 have hn:i.toNat<x.cps.toList.length:=by omega
 refine⟨⟨#[x.cps.toList[i.toNat]'hn]⟩,rfl,?_,?_⟩
 ·rw[NY hn];rfl
 ·show(if small x.length then(oa x.cps.toList i).bind λc=>some (D.str ⟨#[c]⟩)else none)=_;rw[dR ‹0›,if_pos rfl,mz h0 hi];rfl
theorem tT(c:Array Nat)(hc:0<c.size):∀(n:Nat)(a:Array Nat),((List.replicate n c).foldl (·++·) a).toList[0]?=if a.size=0 then(if n=0 then none else c.toList[0]?)else a.toList[0]?
 |0,a=>by
  rw[O3,List.foldl_nil];split
  ·rename_i h;simp[h]
  ·rfl
 |n+1,a=>by
  rw[Ox,Oy,tT c hc n (a++c)]
  have:¬(a++c).size=0:=by rw[Array.size_append];omega
  rw[if_neg this,Array.toList_append];by_cases h:a.size=0
  ·rw[if_pos h,if_neg ‹0›,Ni (by simp[h])];simp[h]
  ·rw[if_neg h,Nk (by simp;omega)]
theorem B3{y:Str}{n:Int}(h:1<=n)(hy:y.length=1):(jB y n).cps.toList[0]?=y.cps.toList[0]?:=by
 unfold jB;split
 ·rfl
 ·have hc:0<y.cps.size:=by have:y.cps.size=1:=hy;omega
  rw[tT y.cps hc n.toNat #[]];split
  ·rw[if_neg ‹0›]
  ·rename_i z;exact absurd rfl z
theorem zU(x y:Str):(x++y).cps.toList=x.cps.toList++y.cps.toList:=by
 show(x.cps++y.cps).toList=_;rw[Array.toList_append]
theorem vE(x:Str):x.cps.toList.length=x.length:=by simp[Str.length]
theorem zT(b k:Int)(hb:0<=b)(hk:0<=k):∃w:Str,bv ca 2 7 [.int b,.int k]=.ok (.str w)/\xR b k w:=by
 have LL:(("abcdefghijklmnopqrstuvwxyz":Str)).length=26:=by decide +kernel
 have hLT:LT=("abcdefghijklmnopqrstuvwxyz":Str).cps.toList:=rfl;generalize hL:("abcdefghijklmnopqrstuvwxyz":Str)=L at LL hLT;have g3:=λi=>eY (i:=i) (show(0:Int)<3 by decide);have g6:=λi=>eY (i:=i) (show(0:Int)<6 by decide);have g8:=λi=>eY (i:=i) (show(0:Int)<8 by decide);have g24:=λi=>eY (i:=i) (show(0:Int)<24 by decide);have g26:=λi=>eY (i:=i) (show(0:Int)<26 by decide);have d3:=λi=>lY (i:=i) (show(0:Int)<3 by decide) (show(3:Int)<10^200 by decide);have d6:=λi=>lY (i:=i) (show(0:Int)<6 by decide) (show(6:Int)<10^200 by decide);have d8:=λi=>lY (i:=i) (show(0:Int)<8 by decide) (show(8:Int)<10^200 by decide);have d24:=λi=>lY (i:=i) (show(0:Int)<24 by decide) (show(24:Int)<10^200 by decide);have d144:=λi=>lY (i:=i) (show(0:Int)<144 by decide) (show(144:Int)<10^200 by decide);obtain⟨st,hst,hstp,est⟩:∃st:Int,(0<=st/\st<=25)/\stp b=st/\aA (.lst [.int 1,.int 5,.int 7,.int 11,.int 13,.int 23]) (.int (b%6))=some (.int st):=by
  rcases(show b%6=0\/b%6=1\/b%6=2\/b%6=3\/b%6=4\/b%6=5 by omega)with z|z|z|z|z|z<;>rw[z]
  ·exact⟨1,by decide,by unfold stp;rw[z];rfl,rfl⟩
  ·exact⟨5,by decide,by unfold stp;rw[z];rfl,rfl⟩
  ·exact⟨7,by decide,by unfold stp;rw[z];rfl,rfl⟩
  ·exact⟨11,by decide,by unfold stp;rw[z];rfl,rfl⟩
  ·exact⟨13,by decide,by unfold stp;rw[z];rfl,rfl⟩
  ·exact⟨23,by decide,by unfold stp;rw[z];rfl,rfl⟩
 have l6:∀a b c d e f:D,kQ [a,b,c,d,e,f]=some (.lst [a,b,c,d,e,f]):=λ_ _ _ _ _ _=>rfl;have ms:=qz (i:=k) (j:=st) ‹0› ‹0›;have hkk:kk b k=(k*st+b/6)%24:=by unfold kk;rw[hstp]
 generalize hk':(k*st+b/6)%24=k' at hkk;have k1:0<=k'/\k'<24:=by omega
 have hP:∀w,xR b k w=((b/144%3=0->w.length=(1+kk b k%8).toNat/\w.cps.toList[0]?=LT[((b/144/3+kk b k/8)%26).toNat]?)/\(b/144%3≠0->w.cps.toList[(jz b).toNat]?=LT[((b/144/(24+11*jz b*jz b)+kk b k)%26).toNat]?)):=λ_=>rfl;have hj:jz b=b/144/24%(1+b/144/3%8):=rfl;generalize hb':b/144=b' at hP hj;generalize jz b=j0 at hP hj;rw[hkk]at hP;simp only[hP];have b0:0<=b':=by omega
 rw[ga];unfold ca;by_cases h:b'%3=0
 ·have h':(b'%3==0)=true:=by simp[h]
  obtain⟨y,hy,hy0,e1⟩:=yW L ‹0› ((b'/3+k'/8)%26) ‹0› ‹0›;have mu:=BU (x:=y) (n:=1+k'%8) ‹0› ‹0› ‹0›;refine⟨jB y (1+k'%8),?_,λ_=>⟨by rw[vT ‹0›,hy,Nat.mul_one],by rw[B3 ‹0› hy,hy0,hLT]⟩,λz=>absurd h z⟩;simp! only[hL,g6,l6,est,ms,d6,g24,hk',d144,hb',g3,h',d3,d8,g26,e1,g8,mu]
 ·have h':(b'%3==0)=false:=by simp[h]
  obtain⟨n,hn,hn1,hn2⟩:∃n:Nat,1+b'/3%8=(n:Int)/\1<=n/\n<=8:=⟨(1+b'/3%8).toNat,by omega,by omega,by omega⟩
  rw[hn]at hj;have hj1:0<=j0/\j0<(n:Int):=by rw[hj];exact⟨O7 _ ‹0›,O8 _ ‹0›⟩
  have rn:=jH n ‹0›;obtain⟨T,hT⟩:∃T:cx,T=(aH (fT (fM (ah (af 3) (aw))) (gN 5) (aH (bG 6 (f2 cW (af 0) (f2 bS (fC (.int 24)) (f2 oH (f2 oH (fC (.int 11)) (af 5)) (af 5))))) (aH (ik (fB (f2 lg (af 5) (f2 cw (f2 cW (af 0) (fC (.int 24))) (af 3)))) (bG 6 (f2 bS (af 6) (af 1))) (bZ)) (aH (bG 4 (f2 bS (af 4) (f2 aA (af 2) (f2 cw (af 6) (fC (.int 26)))))) (cD [5,6] bZ))))) (bI (af 4))):=⟨_,rfl⟩
  have key:∃w:Str,(w.cps.toList[j0.toNat]?=LT[((b'/(24+11*j0*j0)+k')%26).toNat]?)/\T K0 [some (.val (.int b')),some (.val (.int k')),some (.val (.str L)),some (.val (.int n)),some (.val (.str "")),none,none]=.ok (.str w):=by
   rw[hT,iI,jb];simp! only[rn];refine dC (Q:=λz=>∃w:Str,(w.cps.toList[j0.toNat]?=LT[((b'/(24+11*j0*j0)+k')%26).toNat]?)/\z=.ok (.str w)) (λi ρ=>∃w:Str,w.length=i/\(j0<(i:Int)->w.cps.toList[j0.toNat]?=LT[((b'/(24+11*j0*j0)+k')%26).toNat]?)/\ρ=[some (.val (.int b')),some (.val (.int k')),some (.val (.str L)),some (.val (.int n)),some (.val (.str w)),none,none]) ?_ ?_ ?_
   ·rintro i d ρ kx hd ⟨w,hw,hw2,rfl⟩;have hi:=cm hd;rw[cz]at hi;have hdi:d=.int (i:Int):=by
     rw[gK,Nm,Oa hi]at hd;cases hd;simp
    subst hdi;have m1:=qA (i:=11) (j:=(i:Int)) (by decide) (by decide);have m2:=qz (i:=11*(i:Int)) (j:=(i:Int)) ‹0› ‹0›;have ii:0<=11*(i:Int)*(i:Int):=Int.mul_nonneg ‹0› ‹0›;have ii2:11*(i:Int)*(i:Int)<=11*8*8:=Int.mul_le_mul ‹0› ‹0› ‹0› (by decide);have dd:=λz=>lY (i:=z) (show(0:Int)<24+11*(i:Int)*(i:Int)by omega) (show 24+11*(i:Int)*(i:Int)<10^200 by
     have:(10:Int)^200>10000:=by decide +kernel
     omega)
    have gn:=λz=>eY (i:=z) (show(0:Int)<(n:Int)by omega);generalize hs:b'/(24+11*(i:Int)*(i:Int))=s;by_cases hq:((i:Int)==b'/24%(n:Int))=true
    ·obtain⟨y,hy,hy0,e1⟩:=yW L ‹0› ((s+k')%26) ‹0› ‹0›;have ad:=ia w y ‹0› ‹0›;refine⟨_,_,rfl,⟨w++y,by rw[zv];omega,λ_=>?_,rfl⟩,?_⟩
     ·have eq:(i:Int)=b'/24%(n:Int):=(by simpa using hq);rw[<-hj]at eq;subst eq;rw[zU,Ni (by rw[vE];omega),vE,hw,Nr,O0,hy0,hLT,<-hs]
     simp! only[m1,m2,dd,hs,d24,gn,hq,g26,e1,ad]
    ·have hq':((i:Int)==b'/24%(n:Int))=false:=(by simpa using hq);obtain⟨y,hy,hy0,e1⟩:=yW L ‹0› (s%26) ‹0› ‹0›;have ad:=ia w y ‹0› ‹0›;refine⟨_,_,rfl,⟨w++y,by rw[zv];omega,λz=>?_,rfl⟩,?_⟩
     ·have ne:j0≠(i:Int):=λq=>hq (by rw[<-q,<-hj];simp);rw[zU,Nk (by rw[vE];omega)];exact hw2 ‹0›
     simp! only[m1,m2,dd,hs,d24,gn,hq',g26,e1,ad]
   ·exact⟨"",by decide +kernel,λz=>by omega,rfl⟩
   ·rintro ρ' ⟨w,hw,hw2,rfl⟩;rw[cz]at hw2;exact⟨w,hw2 ‹0›,by simp! only[]⟩
  obtain⟨w,hw,ew⟩:=key;refine⟨w,?_,λz=>absurd z h,λ_=>hw⟩;rw[<-hT];simp only[K0]at ew;simp! only[hL,g6,l6,est,ms,d6,g24,hk',d144,hb',g3,h',d3,g8,hn,ew]
theorem qH:∀{σ:List Bool}{a:List D},Sh σ a->∃q:List Key,a=q.map bN
 |_,_,.nil=>⟨[],rfl⟩
 |_,_,.int i h=>by
  obtain⟨q,e⟩:=qH h;exact⟨.inl i::q,by rw[Ny,e];rfl⟩
 |_,_,.str x h=>by
  obtain⟨q,e⟩:=qH h;exact⟨.inr x::q,by rw[Ny,e];rfl⟩
theorem rk:∀{p q:List Key},p.map bN=q.map bN->p=q:=λ{p q} h=>by
 have:=congrArg keysOf h
 rw[cA,cA]at this;exact Option.some.inj this
section
open Classical
variable(m:Nat)
noncomputable def MN(acc:List (List D))(r:List D):List (List D):=if r.take m∈acc then acc else acc++[r.take m]
noncomputable def fs(t:List (List D)):List (List D):=t.foldl (MN m) []
noncomputable def gp(t:List (List D))(f:List D):List (List D):=(t.filter λr=>decide (r.take m=f)).map (List.drop m)
noncomputable def flat(t:List (List D)):List (List D):=(fs m t).flatMap λf=>(gp m t f).map (f++·)
end
open Classical in
theorem pp(al:List (List Key×D))(q:List Key)(v:D):(iA al q v).map (·.1)=if q∈al.map (·.1)then al.map (·.1)else al.map (·.1)++[q]:=by
 have e:(al.any λp=>decide (p.1=q))=true↔q∈al.map (·.1):=by
  rw[O9,List.mem_map];simp only[decide_eq_true_eq]
 unfold iA;by_cases h:q∈al.map (·.1)
 ·rw[if_pos (e.mpr h),if_pos h,OL];refine N5 λp _=>?_;show(if p.1=q then(p.1,v)else p).1=p.1;split<;>rfl
 ·rw[if_neg λz=>h (e.mp z),if_neg h,N6];rfl
theorem B6{al:List (List Key×D)}{q:List Key}{v:D}{p:List Key×D}(h:p∈iA al q v):p∈al\/p=(q,v):=by
 unfold iA at h;split at h
 ·obtain⟨a,ha,e⟩:=List.mem_map.mp h;by_cases z:a.1=q
  ·rw[if_pos z]at e;exact .inr (by rw[<-e,z])
  ·rw[if_neg z]at e;exact .inl (by rw[<-e];exact ha)
 ·rcases List.mem_append.mp h with z|z
  ·exact .inl z
  ·exact .inr (List.mem_singleton.mp z)
theorem DP{al:List (List Key×D)}(q:List Key)(v:D)(h:(al.map (·.1)).Nodup):((iA al q v).map (·.1)).Nodup:=by
 rw[pp];split
 ·exact h
 ·rename_i z;exact List.nodup_append.mpr ⟨h,by simp,λa ha b hb e=>by
   rw[List.mem_singleton.mp hb]at e;rw[e]at ha;exact z ha⟩
theorem Du(al:List (List Key×D))(q:List Key)(v:D):(iA al q v).length<=al.length+1:=by
 have:=congrArg List.length (pp al q v)
 rw[Nq]at this;rw[this];split<;>simp
theorem rS:∀{al:List (List Key×D)}{p:List Key×D},(al.map (·.1)).Nodup->p∈al->o5 al p.1=some p.2
 |a::al,p,h,hp=>by
  obtain⟨h1,h2⟩:=List.nodup_cons.mp (by simpa using h:(a.1::al.map (·.1)).Nodup);unfold o5;by_cases e:a.1=p.1
  ·rw[OY (by simpa using e)];rcases List.mem_cons.mp hp with z|z
   ·rw[z];rfl
   ·exact absurd (show a.1∈al.map (·.1)from by rw[e];exact List.mem_map.mpr ⟨p,z,rfl⟩) h1
  ·rw[OZ (by simpa using e)];rcases List.mem_cons.mp hp with z|z
   ·exact absurd (by rw[z]) e
   ·exact rS h2 z
theorem zh(al:List (List Key×D)):DB (encK al) (al.map (·.2))=some al:=by
 cases al with
 |nil=>rfl
 |cons p al=>exact om (p::al)
theorem BR(al:List (List Key×D)):o0 [eT al]=some (.lst (encK al)):=by
 show(DB (encK al) (al.map (·.2))).bind _=_;rw[zh];rfl
theorem Ds(al:List (List Key×D))(q:List Key):rL (eT al) (.tup (q.map bN))=o5 al q:=by
 show(DB (encK al) (al.map (·.2))).bind _=_;rw[zh];show(jq (.tup (q.map bN))).bind _=_;rw[qU];rfl
theorem Ei{al:List (List Key×D)}{σ:List Bool}(nd:(al.map (·.1)).Nodup)(hs:∀p∈al,Sh σ (p.1.map bN))(h0:σ≠[])(hl:al.length<64):e9 [.lst (encK al)]=some (.lst (iW eF (encK al)))/\xr eF (iW eF (encK al)):=by
 have hx:∀x∈encK al,∃k,x=.tup k/\Sh σ k:=λx hx=>by
  obtain⟨p,hp,rfl⟩:=List.mem_map.mp hx;exact⟨_,rfl,hs p hp⟩
 have pw:(encK al).Pairwise λx y=>eF x≠eF y:=by
  rw[OI]
  have:=List.pairwise_map.mp nd
  exact this.imp λ{a b} ne e=>ne (rk e)
 have a:Gj (encK al):=⟨by rw[Nq];exact hl,σ,h0,hx,pw⟩
 refine⟨?_,mI (σ:=σ) (λx h=>by obtain⟨k,e,s⟩:=hx x h;rw[e];exact s) pw⟩;show qi (encK al)=_;unfold qi;rw[if_pos a]
theorem zN:∀vs:List D,(∀v∈vs,∃r,v=.tup r)->∃t:List (List D),vs=t.map .tup
 |[],_=>⟨[],rfl⟩
 |v::vs,h=>by
  obtain⟨r,e⟩:=h v MV;obtain⟨t,et⟩:=zN vs λv hv=>h v (MX _ hv);exact⟨r::t,by rw[e,et];rfl⟩
def AL:Nat->D->Prop
 |0,d=>(∃i,d=.int i)\/∃x,d=.str x
 |n+1,d=>((∃i,d=.int i)\/∃x,d=.str x)\/∃ds,d=.tup ds/\ds.length<=1000/\∀x∈ds,AL n x
theorem AL.of0{d:D}(h:AL 0 d):∀n,AL n d
 |0=>h
 |_+1=>.inl h
theorem AL.up:∀{n:Nat}{d:D},AL n d->AL (n+1) d
 |0,_,h=>.inl h
 |n+1,_,h=>by
  rcases h with h|⟨ds,e,l,f⟩
  ·exact .inl h
  ·exact .inr ⟨ds,e,l,λx hx=>AL.up (f x hx)⟩
theorem AL.le{n m:Nat}(h:n<=m){d:D}(hd:AL n d):AL m d:=by
  induction m with
  | zero => have : n = 0 := by omega
            subst this;exact hd
  |succ m ih=>
    by_cases e:n=m+1
    ·subst e;exact hd
    ·exact AL.up (ih ‹0›)
theorem AL.tup{n:Nat}{ds:List D}(l:ds.length<=1000)(h:∀x∈ds,AL n x):AL (n+1) (.tup ds):=.inr ⟨ds,rfl,l,h⟩
theorem t6:∀{σ:List Bool}{a:List D},Sh σ a->∀x∈a,AL 0 x
 |_,_,.int i h,x,hx=>by
  rcases List.mem_cons.mp hx with z|z
  ·exact .inl ⟨i,z⟩
  ·exact t6 h x z
 |_,_,.str i h,x,hx=>by
  rcases List.mem_cons.mp hx with z|z
  ·exact .inr ⟨i,z⟩
  ·exact t6 h x z
theorem Cv:∀{n:Nat}{d:D},AL n d->pl d=true
 |0,_,h=>by rcases h with⟨i,rfl⟩|⟨x,rfl⟩<;>rfl
 |n+1,_,h=>by
  rcases h with(⟨i,rfl⟩|⟨x,rfl⟩)|⟨ds,rfl,_,f⟩
  ·rfl
  ·rfl
  ·rw[de];exact pf λx hx=>Cv (f x hx)
end T4
namespace Tk56
open PySem PySem.Spec L2 TG TX TD
def top(i:Nat):QZ:=PySem.Challenge.pw_twoglass_k56_whole_joins_written.main.body.getD i (.Pass ⟨0,0,0,0⟩)
abbrev iG:QZ:=top 32
theorem sV:bw ["_law_one","_law_tables","_law_put","_law_view","_law_many","_law_wide","_law_brought","_law_there","_law_row_here","_law_hid"] ["_law_one","_law_tables","_law_put","_law_view"] (aB iG):=‹2›
def fJ:cx:=aH (bG 4 (fL fw (ah (f2 aA (af 0) (fC (.int 0))) (aw)))) (aH (bG 5 (f2 bS (af 4) (fL fw (ah (f2 aA (af 0) (fC (.int 1))) (aw))))) (aH (bG 6 (gg [none,some 4] (bc (af 3)) (gN 0) (cX) (aP (af 0) (aG) (bp (af 1))))) (aH (bG 7 (gg [none,some 4] (bc (f2 aA (af 2) (fC (.int 1)))) (gN 0) (cX) (aP (af 0) (aG) (bp (af 1))))) (cD [0] (aH (fT (bc (f2 aA (af 2) (fC (.int 0)))) (gN 8) (ik (fB (f2 ce (af 8) (gg [none,some 5] (bc (af 3)) (gN 0) (cX) (aP (af 0) (aG) (bp (af 1)))))) (ik (ya (fB (f2 ce (af 8) (f2 aA (af 1) (fC (.int 0))))) (fB (f2 AV (aP (af 8) (aG) (bp (af 4))) (af 7)))) (bI (fC (.bl false))) (bZ)) (bZ))) (cD [0,7] (aH (fT (bc (f2 aA (af 2) (fC (.int 1)))) (gN 8) (ik (kD (fB (f2 ce (af 8) (gg [none,some 4,some 5] (bc (af 3)) (gN 0) (cX) (f2 bS (aP (af 0) (aG) (bp (af 1))) (aP (af 0) (bp (af 2)) (aG)))))) (fB (f2 ce (af 8) (f2 aA (af 1) (fC (.int 1)))))) (bI (fC (.bl false))) (bZ))) (cD [0,3,5,7] (aH (fT (bc (f2 aA (af 1) (fC (.int 1)))) (gN 8) (ik (kD (fB (f2 ce (aP (af 8) (aG) (bp (af 4))) (af 6))) (fB (f2 ce (af 8) (f2 aA (af 2) (fC (.int 1)))))) (bI (fC (.bl false))) (bZ))) (aH (bG 9 (gg [none,some 4,some 1] (bc (f2 aA (af 1) (fC (.int 0)))) (gN 0) (fB (f2 ce (aP (af 0) (aG) (bp (af 1))) (gg [none,some 1] (bc (f2 aA (af 2) (fC (.int 1)))) (gN 0) (cX) (aP (af 0) (aG) (bp (af 1)))))) (af 0))) (cD [0,1,3,5,7,8] (aH (fT (bc (af 9)) (gN 8) (aH (ik (kD (fB (f2 ce (aP (af 8) (aG) (bp (af 4))) (af 6))) (fB (f2 ce (af 8) (f2 aA (af 2) (fC (.int 0)))))) (bI (fC (.bl false))) (bZ)) (cD [8] bZ))) (bI (fC (.bl true)))))))))))))))
abbrev fN:QZ:=top 21
theorem sU:bw ["_law_found","_law_due","_law_one","_law_other"] ["_law_found","_law_due"] (aB fN):=‹2›
def dP(bx:List D->R D):cx:=aH (ik (eX (o8 "str" (af 1))) (bI (sr (o8 "str" (af 0)) (f2 lg (af 0) (af 1)))) (bZ)) (aH (ik (ya (eX (o8 "bool" (af 1))) (eX (o8 "bool" (af 0)))) (bI (sr (o8 "bool" (af 1)) (sr (o8 "bool" (af 0)) (f2 lg (af 0) (af 1))))) (bZ)) (aH (ik (eX (o8 "int" (af 1))) (bI (sr (o8 "int" (af 0)) (f2 lg (af 0) (af 1)))) (bZ)) (aH (ik (ya (rC (eX (o8 "tuple" (af 0)))) (fB (f2 vR (fL fw (ah (af 0) (aw))) (fL fw (ah (af 1) (aw)))))) (bI (fC (.bl false))) (bZ)) (aH (fT (AG (ah (af 0) (ah (af 1) (aw)))) (gT 2 (og [2,3])) (aH (ik (rC (eX (fR bx (ah (af 2) (ah (af 3) (aw)))))) (bI (fC (.bl false))) (bZ)) (cD [2,3] bZ))) (bI (fC (.bl true)))))))
def bx:Nat->List D->R D
 |0=>λ_=>un
 |n+1=>bv (dP (bx n)) 2 4
theorem jc(n:Nat):bx (n+1)=bv (dP (bx n)) 2 4:=by rw[bx]
theorem kU:∀n:Nat,Ar 2 (bx n)
 |0=>λ_ h=>absurd (by rw[bx]) h
 |n+1=>by rw[jc];exact aY
abbrev j6:QZ:=inClass (top 7) 2
theorem vY:bw ["self","forms","tables"] ["self","forms","tables"] (aB j6):=‹2›
def gF:cx:=bI (f2 aA (af 2) (fC (.int 0)))
abbrev oq:QZ:=top 4
theorem Ay:bw ["many","rows"] ["many","rows"] (aB oq):=‹2›
def gb:cx:=bI (fL vk (ah (gg [none,some 0] (bc (af 1)) (gN 0) (cX) (cF (ah (aP (af 0) (aG) (bp (af 1))) (ah (af 0) (aw))))) (aw)))
abbrev kz:QZ:=inClass (top 8) 2
theorem wL:bw ["self","forms","tables","many","others"] ["self","forms","tables"] (aB kz):=‹2›
def eP:cx:=aH (bG 3 (fL fw (ah (f2 aA (f2 aA (af 1) (fC (.int 0))) (fC (.int 0))) (aw)))) (aH (bG 4 (fR (bv gb 2 2) (ah (af 3) (ah (f2 aA (af 2) (fC (.int 1))) (aw))))) (bI (fL cC (ah (gg [none,some 4,some 3] (bc (f2 aA (af 2) (fC (.int 0)))) (gN 0) (fB (f2 yc (aP (af 0) (aG) (bp (af 2))) (af 1))) (f2 bS (af 0) (aP (f2 rL (af 1) (aP (af 0) (aG) (bp (af 2)))) (bp (af 2)) (aG)))) (aw)))))
abbrev hU:QZ:=top 33
theorem qW:bw ["_law_table","_law_many","_law_k"] ["_law_table","_law_many"] (aB hU):=‹2›
def d7:cx:=aH (fT (fM (ah (f2 xX (fL fw (ah (af 0) (aw))) (fC (.int 1))) (aw))) (gN 2) (aH (ik (rC (fB (f2 p3 (aP (f2 aA (af 0) (af 2)) (aG) (bp (af 1))) (aP (f2 aA (af 0) (f2 bS (af 2) (fC (.int 1)))) (aG) (bp (af 1)))))) (bI (fC (.bl false))) (bZ)) (cD [2] bZ))) (bI (fC (.bl true)))
abbrev kJ:QZ:=inClass (top 7) 3
theorem v5:bw ["self","forms","tables","view"] ["self","forms","tables","view"] (aB kJ):=‹2›
def iR:cx:=bI (cF (ah (af 3) (ah (f2 aA (af 2) (fC (.int 1))) (aw))))
abbrev jl:QZ:=top 2
theorem vw:bw ["many","rows"] ["many","rows"] (aB jl):=‹2›
noncomputable def ip:cx:=bI (fL cC (ah (f2 pG (af 1) (af 0)) (aw)))
abbrev jY:QZ:=top 5
theorem vV:bw ["many","rows","others","taken"] ["many","rows","others"] (aB jY):=‹2›
noncomputable def gP:cx:=aH (bG 3 (fR (bv gb 2 2) (ah (af 0) (ah (af 1) (aw))))) (bI (fR (bv ip 2 2) (ah (af 0) (ah (f2 bS (fL zb (ah (af 1) (aw))) (gg [none,some 0,some 3] (bc (af 2)) (gN 0) (fB (f2 iH (aP (af 0) (aG) (bp (af 1))) (af 2))) (af 0))) (aw)))))
abbrev j4:QZ:=inClass (top 8) 3
theorem wo:bw ["self","forms","tables","view","many","end","others","hidden","one","other"] ["self","forms","tables","view"] (aB j4):=‹2›
noncomputable def fu:cx:=aH (bG 4 (fL fw (ah (f2 aA (f2 aA (af 1) (fC (.int 0))) (fC (.int 0))) (aw)))) (aH (bG 5 (f2 bS (af 4) (fL fw (ah (f2 aA (f2 aA (af 1) (fC (.int 0))) (fC (.int 1))) (aw))))) (aH (bG 6 (fR (bv gb 2 2) (ah (af 4) (ah (f2 aA (af 2) (fC (.int 1))) (aw))))) (aH (bG 7 (gg [none,some 4,some 6] (bc (f2 aA (af 2) (fC (.int 0)))) (gN 0) (fB (f2 iH (aP (af 0) (aG) (bp (af 1))) (af 2))) (af 0))) (aH (bG 8 (fR (bv gP 3 4) (ah (af 4) (ah (gg [none,some 5] (bc (af 3)) (gN 0) (cX) (aP (af 0) (aG) (bp (af 1)))) (ah (af 7) (aw)))))) (aH (bG 9 (fR (bv gP 3 4) (ah (af 4) (ah (gg [none,some 4,some 5] (bc (af 3)) (gN 0) (cX) (f2 bS (aP (af 0) (aG) (bp (af 1))) (aP (af 0) (bp (af 2)) (aG)))) (ah (f2 aA (af 2) (fC (.int 1))) (aw)))))) (bI (cF (ah (af 8) (ah (af 9) (aw))))))))))
abbrev gX:QZ:=top 19
theorem sf:bw ["_law_many","_law_rows_here","_law_found","_law_row_here"] ["_law_many","_law_rows_here"] (aB gX):=‹2›
noncomputable def bu:cx:=aH (li 2 tG) (aH (fT (bc (af 1)) (gN 3) (aH (tX 2 (aP (af 3) (aG) (bp (af 0))) (af 3)) (cD [3] bZ))) (ic 2 (bI (fL cC (ah (gg [none,some 2] (bc (fL e9 (ah (fL o0 (ah (af 2) (aw))) (aw)))) (gN 0) (cX) (f2 rL (af 1) (af 0))) (aw))))))
abbrev jh:QZ:=top 11
theorem vt:bw ["_law_x"] ["_law_x"] (aB jh):=‹2›
abbrev fP:QZ:=top 17
theorem sW:bw ["_law_kind_here","_law_x"] ["_law_kind_here","_law_x"] (aB fP):=‹2›
abbrev iV:QZ:=top 18
theorem vZ:bw ["_law_form_here","_law_many","_law_head","_law_tail","_law_row_here","_law_name_here","_law_kind_here"] ["_law_form_here","_law_many","_law_head","_law_tail"] (aB iV):=‹2›
abbrev iw:QZ:=top 20
theorem uU:bw ["_law_form_here","_law_x","_law_many","_law_rows_here","_law_k"] ["_law_form_here","_law_x","_law_many"] (aB iw):=‹2›
noncomputable def fO(aE aR aV:List D->R D):cx:=aH (ik (fB (f2 lg (f2 aA (af 0) (fC (.int 0))) (fC (.str "number")))) (bI (f2 bS (f2 aA (af 0) (fC (.int 1))) (f2 cw (f2 jG (af 1) (fC (.int 7))) (f2 bS (f2 xX (f2 aA (af 0) (fC (.int 2))) (f2 aA (af 0) (fC (.int 1)))) (fC (.int 1)))))) (bZ)) (aH (ik (fB (f2 lg (f2 aA (af 0) (fC (.int 0))) (fC (.str "word")))) (bI (f2 aA (f2 aA (af 0) (fC (.int 1))) (f2 cw (af 1) (fL fw (ah (f2 aA (af 0) (fC (.int 1))) (aw)))))) (bZ)) (bI (fR aV (ah (f2 aA (af 0) (fC (.int 1))) (ah (f2 cW (af 1) (fC (.int 3))) (ah (fL nM (ah (f2 cw (af 1) (fC (.int 3))) (ah (fL zJ (ah (f2 aA (af 0) (fC (.int 2))) (aw))) (aw)))) (aw)))))))
noncomputable def ku(aE aR aV:List D->R D):cx:=aH (li 4 (gh (aw))) (aH (fT (bc (f2 bS (f2 aA (af 0) (fC (.int 0))) (f2 aA (af 0) (fC (.int 1))))) (gT 2 (og [5,6])) (aH (ik (lA [4] (fB (f2 p3 (fL fw (ah (af 4) (aw))) (af 1)))) (aH (bG 2 (fR (bv aJ 1 1) (ah (af 2) (aw)))) (yf 4 fE (ah (fR aE (ah (af 6) (ah (af 2) (aw)))) (aw)))) (aH (bG 3 (fR (bv aJ 1 1) (ah (af 3) (aw)))) (yf 4 fE (ah (fR aE (ah (af 6) (ah (af 3) (aw)))) (aw))))) (cD [5,6] bZ))) (ic 4 (bI (fL cC (ah (af 4) (aw))))))
noncomputable def ja(aE aR aV:List D->R D):cx:=aH (li 3 (gh (aw))) (aH (fT (fM (ah (af 2) (aw))) (gN 4) (aH (bG 1 (fR (bv aJ 1 1) (ah (af 1) (aw)))) (aH (yf 3 fE (ah (fR aR (ah (af 0) (ah (fC (.int 0)) (ah (fC (.int 0)) (ah (af 1) (aw)))))) (aw))) (cD [4] bZ)))) (ic 3 (bI (fR (bv bu 2 4) (ah (fL fw (ah (f2 aA (af 0) (fC (.int 0))) (aw))) (ah (af 3) (aw)))))))
mutual
noncomputable def aE:Nat->List D->R D
 |0=>λ_=>un
 |n+1=>bv (fO (aE n) (aR n) (aV n)) 2 2
noncomputable def aR:Nat->List D->R D
 |0=>λ_=>un
 |n+1=>bv (ku (aE n) (aR n) (aV n)) 4 7
noncomputable def aV:Nat->List D->R D
 |0=>λ_=>un
 |n+1=>bv (ja (aE n) (aR n) (aV n)) 3 5
end
theorem eD(n:Nat):aE (n+1)=bv (fO (aE n) (aR n) (aV n)) 2 2:=by rw[aE]
theorem iB:∀n:Nat,Ar 2 (aE n)
 |0=>λ_ h=>absurd (by rw[aE]) h
 |n+1=>by rw[eD];exact aY
theorem iy(n:Nat):aR (n+1)=bv (ku (aE n) (aR n) (aV n)) 4 7:=by rw[aR]
theorem hJ:∀n:Nat,Ar 4 (aR n)
 |0=>λ_ h=>absurd (by rw[aR]) h
 |n+1=>by rw[iy];exact aY
theorem gJ(n:Nat):aV (n+1)=bv (ja (aE n) (aR n) (aV n)) 3 5:=by rw[aV]
theorem i3:∀n:Nat,Ar 3 (aV n)
 |0=>λ_ h=>absurd (by rw[aV]) h
 |n+1=>by rw[gJ];exact aY
abbrev gW:QZ:=top 27
theorem su:bw ["_law_fields","_law_x"] ["_law_fields","_law_x"] (aB gW):=‹2›
noncomputable def bQ:cx:=bI (fR (aR 12) (ah (cF (ah (fL cC (ah (af 0) (aw))) (ah (cF (aw)) (aw)))) (ah (fC (.int 0)) (ah (fC (.int 0)) (ah (af 1) (aw))))))
abbrev kj:QZ:=top 30
theorem wC:bw ["_law_fields","_law_key","_law_field","_law_value_here","_law_kind_here"] ["_law_fields","_law_key"] (aB kj):=‹2›
def gL:cx:=aH (fT (AG (ah (af 0) (ah (af 1) (aw)))) (gT 2 (og [2,3])) (aH (bG 4 (f2 aA (af 2) (fC (.int 1)))) (aH (ik (kD (fB (f2 lg (f2 aA (af 4) (fC (.int 0))) (fC (.str "number")))) (ya (fB (f2 p3 (af 3) (f2 aA (af 4) (fC (.int 1))))) (fB (f2 Gk (af 3) (f2 aA (af 4) (fC (.int 2))))))) (bI (fC (.bl false))) (bZ)) (aH (ik (kD (fB (f2 lg (f2 aA (af 4) (fC (.int 0))) (fC (.str "word")))) (fB (f2 ce (af 3) (f2 aA (af 4) (fC (.int 1)))))) (bI (fC (.bl false))) (bZ)) (cD [2,3,4] bZ))))) (bI (fC (.bl true)))
abbrev fY:QZ:=top 24
theorem qu:bw ["_law_one","_law_other"] ["_law_one","_law_other"] (aB fY):=‹2›
def dE:cx:=aH (ik (fB (f2 lg (f2 aA (af 0) (fC (.int 0))) (fC (.str "number")))) (bI (cF (ah (fC (.str "number")) (ah (fL nM (ah (f2 aA (af 0) (fC (.int 1))) (ah (f2 aA (af 1) (fC (.int 1))) (aw)))) (ah (fL qg (ah (f2 aA (af 0) (fC (.int 2))) (ah (f2 aA (af 1) (fC (.int 2))) (aw)))) (aw)))))) (bZ)) (bI (cF (ah (fC (.str "word")) (ah (fL cC (ah (gg [none,some 1] (bc (f2 aA (af 0) (fC (.int 1)))) (gN 0) (fB (f2 AV (af 0) (f2 aA (af 1) (fC (.int 1))))) (af 0)) (aw))) (aw)))))
abbrev dN:QZ:=top 26
theorem nz:bw ["_law_one","_law_other","_law_found","_law_field","_law_more"] ["_law_one","_law_other"] (aB dN):=‹2›
def bR:cx:=aH (li 2 (gh (aw))) (aH (fT (AG (ah (f2 aA (af 0) (fC (.int 0))) (ah (f2 aA (af 1) (fC (.int 0))) (aw)))) (gT 2 (og [3,4])) (aH (yf 2 fE (ah (cF (ah (f2 aA (af 3) (fC (.int 0))) (ah (fR (bv dE 2 2) (ah (f2 aA (af 3) (fC (.int 1))) (ah (f2 aA (af 4) (fC (.int 1))) (aw)))) (aw)))) (aw))) (cD [3,4] bZ))) (ic 2 (bI (fL cC (ah (af 2) (aw))))))
abbrev jj:QZ:=top 31
theorem vo:bw ["_law_one","_law_other","_law_tables","_law_view","_law_x","_law_many","_law_key_fields","_law_keys","_law_key","_law_rows_here"] ["_law_one","_law_other","_law_tables","_law_view","_law_x"] (aB jj):=‹2›
noncomputable def iq:cx:=aH (bG 5 (fL fw (ah (f2 aA (af 0) (fC (.int 0))) (aw)))) (aH (bG 6 (fR (bv bR 2 5) (ah (af 0) (ah (af 1) (aw))))) (aH (bG 7 (gg [none,some 5] (bc (f2 bS (f2 bS (f2 aA (af 2) (fC (.int 0))) (f2 aA (af 2) (fC (.int 1)))) (af 3))) (gN 0) (cX) (aP (af 0) (aG) (bp (af 1))))) (aH (bG 8 (fR (bv bQ 2 2) (ah (af 6) (ah (f2 aA (gh (ah (af 4) (ah (f2 cw (af 4) (fC (.int 5))) (aw)))) (f2 cw (f2 cW (af 4) (fC (.int 2))) (fC (.int 2)))) (aw))))) (aH (ik (kD (fB (f2 Gk (f2 cw (af 4) (fC (.int 4))) (fC (.int 1)))) (fB (f2 vR (af 7) (gh (aw))))) (bG 8 (f2 aA (af 7) (f2 cw (f2 cW (af 4) (fC (.int 8))) (fL fw (ah (af 7) (aw)))))) (bZ)) (aH (li 9 (gg [none,some 5,some 8] (bc (af 3)) (gN 0) (fB (f2 vR (aP (af 0) (aG) (bp (af 1))) (af 2))) (af 0))) (aH (ik (kD (fB (f2 Gk (f2 cw (f2 cW (af 4) (fC (.int 4))) (fC (.int 3))) (fC (.int 0)))) (eX (fR (bv gL 2 5) (ah (af 6) (ah (af 8) (aw)))))) (yf 9 fE (ah (f2 bS (af 8) (fR (bv bQ 2 2) (ah (f2 bS (f2 aA (af 0) (fC (.int 1))) (f2 aA (af 1) (fC (.int 1)))) (ah (fR (bv aJ 1 1) (ah (af 4) (aw))) (aw))))) (aw))) (bZ)) (ic 9 (bI (fR (bv bu 2 4) (ah (af 5) (ah (af 9) (aw))))))))))))
abbrev fQ:QZ:=top 10
theorem qq:bw ["_law_script","_law_k"] ["_law_script","_law_k"] (aB fQ):=‹2›
abbrev jm:QZ:=top 12
theorem uY:bw ["_law_script","_law_k","_law_x"] ["_law_script","_law_k"] (aB jm):=‹2›
abbrev dj:QZ:=top 29
theorem lj:bw ["_law_one","_law_other","_law_script","_law_start","_law_most","_law_both_key","_law_rows_here","_law_k","_law_x","_law_way","_law_y","_law_key"] ["_law_one","_law_other","_law_script","_law_start","_law_most"] (aB dj):=‹2›
noncomputable def cJ:cx:=aH (bG 5 (fR (bv bR 2 5) (ah (af 0) (ah (af 1) (aw))))) (aH (o6 6) (aH (fT (oG (ah (af 3) (ah (fL qg (ah (fL nM (ah (fL fw (ah (af 2) (aw))) (ah (f2 bS (af 3) (fC (.int 5))) (aw)))) (ah (f2 bS (af 3) (af 4)) (aw)))) (aw)))) (gN 7) (aH (bG 8 (fR (bv cU 2 3) (ah (af 2) (ah (af 7) (aw))))) (aH (bG 9 (f2 cw (af 8) (fC (.int 5)))) (aH (bG 10 (fR (bv aJ 1 1) (ah (af 8) (aw)))) (aH (bG 11 (fR (bv bQ 2 2) (ah (f2 aA (gh (ah (f2 aA (af 0) (fC (.int 0))) (ah (f2 aA (af 1) (fC (.int 0))) (ah (af 5) (ah (af 5) (ah (af 5) (aw))))))) (af 9)) (ah (f2 aA (gh (ah (af 10) (ah (f2 cw (af 10) (fC (.int 7))) (aw)))) (f2 cw (f2 cW (af 8) (fC (.int 5))) (fC (.int 2)))) (aw))))) (aH (ik (fB (f2 AV (af 9) (cF (ah (fC (.int 0)) (ah (fC (.int 2)) (ah (fC (.int 4)) (aw))))))) (qe 6 0 (f2 bS (af 11) (fR (bv bQ 2 2) (ah (f2 aA (af 0) (fC (.int 1))) (ah (f2 bS (af 10) (fC (.int 1))) (aw)))))) (bZ)) (aH (ik (fB (f2 AV (af 9) (cF (ah (fC (.int 1)) (ah (fC (.int 3)) (ah (fC (.int 4)) (aw))))))) (qe 6 1 (f2 bS (af 11) (fR (bv bQ 2 2) (ah (f2 aA (af 1) (fC (.int 1))) (ah (f2 bS (af 10) (fC (.int 2))) (aw)))))) (bZ)) (cD [7,8,9,10,11] bZ)))))))) (xN 6 (bI (cF (ah (fR (bv bu 2 4) (ah (fL fw (ah (f2 aA (af 0) (fC (.int 0))) (aw))) (ah (f2 aA (af 6) (fC (.int 0))) (aw)))) (ah (fR (bv bu 2 4) (ah (fL fw (ah (f2 aA (af 0) (fC (.int 0))) (aw))) (ah (f2 aA (af 6) (fC (.int 1))) (aw)))) (aw))))))))
abbrev jk:QZ:=top 13
theorem vx:bw ["_law_base","_law_k","_law_letters","_law_size","_law_name_here","_law_j","_law_step"] ["_law_base","_law_k"] (aB jk):=‹2›
abbrev iE:QZ:=top 14
theorem sO:bw ["_law_x","_law_low","_law_letters","_law_one","_law_other","_law_some","_law_kept","_law_k"] ["_law_x"] (aB iE):=‹2›
abbrev ir:QZ:=top 15
theorem u9:bw ["_law_x","_law_base","_law_deep","_law_inner"] ["_law_x","_law_base","_law_deep"] (aB ir):=‹2›
abbrev ie:QZ:=top 16
theorem u6:bw ["_law_x","_law_base","_law_start","_law_many","_law_more","_law_deep","_law_key","_law_rest","_law_k"] ["_law_x","_law_base","_law_start","_law_many","_law_more","_law_deep"] (aB ie):=‹2›
noncomputable def ig(bi aU:List D->R D):cx:=aH (ik (ya (fB (f2 lg (af 2) (fC (.int 0)))) (fB (f2 p3 (f2 cw (af 0) (fC (.int 3))) (fC (.int 2))))) (bI (fR (bv cR 1 8) (ah (f2 cW (af 0) (fC (.int 3))) (aw)))) (bZ)) (aH (bG 3 (fR aU (ah (f2 cW (af 0) (fC (.int 3))) (ah (af 1) (ah (f2 cw (f2 cW (af 0) (fC (.int 36))) (fC (.int 12))) (ah (f2 bS (fC (.int 1)) (f2 cw (f2 cW (af 0) (fC (.int 3))) (fC (.int 2)))) (ah (f2 cw (f2 cW (af 0) (fC (.int 6))) (fC (.int 3))) (ah (f2 xX (af 2) (fC (.int 1))) (aw))))))))) (bI (cF (ah (fC (.str "rows")) (ah (af 3) (ah (f2 lg (f2 cw (f2 cW (af 0) (fC (.int 18))) (fC (.int 2))) (fC (.int 1))) (aw)))))))
noncomputable def jd(bi aU:List D->R D):cx:=aH (li 6 (gh (aw))) (aH (li 7 (gh (aw))) (aH (fT (fM (ah (f2 bS (af 3) (af 4)) (aw))) (gN 8) (aH (bG 0 (fR (bv aJ 1 1) (ah (af 0) (aw)))) (aH (ik (fB (f2 p3 (af 8) (af 3))) (yf 6 fE (ah (cF (ah (fR (bv ca 2 7) (ah (af 1) (ah (f2 bS (af 2) (af 8)) (aw)))) (ah (fR (bv cR 1 8) (ah (af 0) (aw))) (aw)))) (aw))) (yf 7 fE (ah (cF (ah (fR (bv ca 2 7) (ah (af 1) (ah (f2 bS (af 2) (af 8)) (aw)))) (ah (fR bi (ah (af 0) (ah (af 1) (ah (af 5) (aw))))) (aw)))) (aw)))) (cD [8] bZ)))) (ic 7 (ic 6 (bI (cF (ah (fL cC (ah (af 6) (aw))) (ah (fL cC (ah (af 7) (aw))) (aw)))))))))
mutual
noncomputable def bi:Nat->List D->R D
 |0=>λ_=>un
 |n+1=>bv (ig (bi n) (aU n)) 3 4
noncomputable def aU:Nat->List D->R D
 |0=>λ_=>un
 |n+1=>bv (jd (bi n) (aU n)) 6 9
end
theorem eU(n:Nat):bi (n+1)=bv (ig (bi n) (aU n)) 3 4:=by rw[bi]
theorem lQ:∀n:Nat,Ar 3 (bi n)
 |0=>λ_ h=>absurd (by rw[bi]) h
 |n+1=>by rw[eU];exact aY
theorem gS(n:Nat):aU (n+1)=bv (jd (bi n) (aU n)) 6 9:=by rw[aU]
theorem fH:∀n:Nat,Ar 6 (aU n)
 |0=>λ_ h=>absurd (by rw[aU]) h
 |n+1=>by rw[gS];exact aY
abbrev eE:QZ:=top 22
theorem nV:bw ["_law_x","_law_letters","_law_one","_law_other","_law_kept","_law_word"] ["_law_x"] (aB eE):=‹2›
noncomputable def dr:cx:=aH (bG 1 (fC (.str "abcdefghijklmnopqrstuvwxyz"))) (aH (bG 2 (f2 aA (af 1) (f2 cw (af 0) (fC (.int 26))))) (aH (bG 3 (f2 aA (af 1) (f2 cw (f2 cW (af 0) (fC (.int 26))) (fC (.int 26))))) (aH (li 4 tG) (cD [0,1] (aH (fT (bc (gh (ah (fC (.str "")) (ah (af 2) (ah (af 3) (ah (f2 bS (af 2) (af 3)) (ah (f2 bS (af 3) (af 2)) (ah (f2 rV (af 2) (fC (.int 8))) (ah (f2 bS (af 2) (af 2)) (ah (f2 rV (af 3) (fC (.int 3))) (aw))))))))))) (gN 5) (aH (nK 4 (af 5) (fC (.bl true))) (cD [5] bZ))) (ic 4 (bI (fL e9 (ah (fL lV (ah (af 4) (aw))) (aw))))))))))
abbrev eW:QZ:=top 23
theorem oh:bw ["_law_x","_law_y","_law_low","_law_wide","_law_far","_law_one","_law_other","_law_some","_law_spare"] ["_law_x"] (aB eW):=‹2›
noncomputable def dD:cx:=aH (bG 1 (fR (bv aJ 1 1) (ah (af 0) (aw)))) (aH (bG 2 (f2 aA (gh (ah (fC (.int 0)) (ah (C5 (fC (.int 3))) (ah (f2 xX (fC (.int 0)) (f2 cw (f2 jG (af 1) (fC (.int 7))) (f2 jG (fC (.int 10)) (fC (.int 59))))) (ah (f2 cw (f2 jG (af 1) (fC (.int 7))) (f2 jG (fC (.int 10)) (fC (.int 59)))) (aw)))))) (f2 cw (f2 cW (af 0) (fC (.int 3))) (fC (.int 4))))) (aH (bG 3 (f2 aA (gh (ah (fC (.int 0)) (ah (fC (.int 1)) (ah (fC (.int 6)) (ah (f2 jG (fC (.int 10)) (fC (.int 59))) (aw)))))) (f2 cw (f2 cW (af 0) (fC (.int 12))) (fC (.int 4))))) (aH (bG 4 (f2 cw (f2 jG (af 1) (fC (.int 7))) (f2 bS (af 3) (fC (.int 1))))) (aH (bG 5 (cF (ah (fC (.str "number")) (ah (af 2) (ah (f2 bS (af 2) (af 3)) (aw)))))) (aH (bG 6 (cF (ah (fC (.str "number")) (ah (f2 bS (af 2) (af 4)) (ah (f2 bS (f2 bS (af 2) (af 4)) (f2 aA (gh (ah (fC (.int 0)) (ah (fC (.int 2)) (ah (fC (.int 9)) (ah (f2 jG (fC (.int 10)) (fC (.int 59))) (aw)))))) (f2 cw (f2 cW (af 0) (fC (.int 48))) (fC (.int 4))))) (aw)))))) (aH (ik (fB (f2 lg (f2 cw (af 0) (fC (.int 3))) (fC (.int 2)))) (aH (bG 7 (fR (bv dr 1 6) (ah (f2 cW (af 0) (fC (.int 3))) (aw)))) (aH (bG 8 (f2 aA (af 7) (f2 cw (af 1) (fL fw (ah (af 7) (aw)))))) (aH (bG 5 (cF (ah (fC (.str "word")) (ah (fL cC (ah (gg [none,none,some 8,some 1] (gI (ah (af 7) (aw))) (gT 2 (og [0,1])) (ya (fB (f2 lg (af 1) (af 2))) (fB (f2 lg (f2 se (f2 yr (f2 cW (af 3) (fC (.int 9))) (af 0)) (fC (.int 1))) (fC (.int 1))))) (af 1)) (aw))) (aw))))) (bG 6 (cF (ah (fC (.str "word")) (ah (fL cC (ah (gg [none,none,some 8,some 1] (gI (ah (af 7) (aw))) (gT 2 (og [0,1])) (ya (fB (f2 lg (af 1) (af 2))) (fB (f2 lg (f2 se (f2 yr (f2 cW (af 3) (fC (.int 3000))) (af 0)) (fC (.int 1))) (fC (.int 1))))) (af 1)) (aw))) (aw)))))))) (bZ)) (aH (ik (fB (f2 lg (f2 cw (f2 cW (af 0) (fC (.int 200))) (fC (.int 2))) (fC (.int 1)))) (bI (cF (ah (af 6) (ah (af 5) (aw))))) (bZ)) (bI (cF (ah (af 5) (ah (af 6) (aw))))))))))))
abbrev fe:QZ:=top 25
theorem p9:bw ["_law_x","_law_base","_law_many","_law_one","_law_other","_law_k","_law_kinds"] ["_law_x","_law_base","_law_many"] (aB fe):=‹2›
noncomputable def dX:cx:=aH (li 3 (gh (aw))) (aH (li 4 (gh (aw))) (aH (fT (fM (ah (af 2) (aw))) (gN 5) (aH (bG 0 (fR (bv aJ 1 1) (ah (af 0) (aw)))) (aH (bG 6 (fR (bv dD 1 9) (ah (af 0) (aw)))) (aH (yf 3 fE (ah (cF (ah (fR (bv ca 2 7) (ah (af 1) (ah (af 5) (aw)))) (ah (f2 aA (af 6) (fC (.int 0))) (aw)))) (aw))) (aH (yf 4 fE (ah (cF (ah (fR (bv ca 2 7) (ah (af 1) (ah (af 5) (aw)))) (ah (f2 aA (af 6) (fC (.int 1))) (aw)))) (aw))) (cD [5,6] bZ)))))) (ic 4 (ic 3 (bI (cF (ah (fL cC (ah (af 3) (aw))) (ah (fL cC (ah (af 4) (aw))) (aw)))))))))
abbrev dB:QZ:=top 28
theorem lT:bw ["_law_script","_law_x","_law_base","_law_keys","_law_deep","_law_more","_law_first","_law_last"] ["_law_script"] (aB dB):=‹2›
noncomputable def cP:cx:=aH (bG 1 (fR (bv cU 2 3) (ah (af 0) (ah (fC (.int 0)) (aw))))) (aH (bG 2 (f2 cw (f2 oH (fR (bv dF 2 2) (ah (af 0) (ah (fC (.int 1)) (aw)))) (fC (.int 48271))) (fC (.int 2147483647)))) (aH (bG 3 (fR (bv dX 3 7) (ah (fR (bv aJ 1 1) (ah (af 1) (aw))) (ah (af 2) (ah (f2 aA (gh (ah (fC (.int 1)) (ah (fC (.int 2)) (ah (fC (.int 1)) (ah (fC (.int 3)) (ah (fC (.int 2)) (ah (fC (.int 1)) (ah (fC (.int 2)) (ah (f2 bS (fC (.int 1)) (f2 cw (f2 cW (af 1) (fC (.int 64))) (fC (.int 8)))) (aw)))))))))) (f2 cw (af 1) (fC (.int 8)))) (aw)))))) (aH (bG 4 (f2 aA (gh (ah (fC (.int 0)) (ah (fC (.int 0)) (ah (fC (.int 1)) (ah (fC (.int 2)) (aw)))))) (f2 cw (f2 cW (af 1) (fC (.int 8))) (fC (.int 4))))) (aH (bG 5 (gh (ah (f2 cw (f2 cW (af 1) (fC (.int 512))) (fC (.int 4))) (ah (f2 cw (f2 cW (af 1) (fC (.int 2048))) (fC (.int 4))) (aw))))) (aH (ik (fB (f2 lg (f2 cw (f2 cW (af 1) (fC (.int 32))) (fC (.int 8))) (fC (.int 3)))) (aH (bG 5 (gh (ah (f2 cw (f2 cW (af 1) (fC (.int 512))) (fC (.int 9))) (ah (f2 xX (fC (.int 8)) (f2 cw (f2 cW (af 1) (fC (.int 512))) (fC (.int 9)))) (aw))))) (bG 4 (fC (.int 0)))) (bZ)) (aH (bG 6 (f2 aA (fR (aU 12) (ah (f2 bS (fR (bv aJ 1 1) (ah (af 1) (aw))) (fC (.int 1))) (ah (af 2) (ah (fC (.int 8)) (ah (fC (.int 0)) (ah (f2 aA (af 5) (fC (.int 0))) (ah (af 4) (aw)))))))) (fC (.int 1)))) (aH (bG 7 (f2 aA (fR (aU 12) (ah (f2 bS (fR (bv aJ 1 1) (ah (af 1) (aw))) (fC (.int 2))) (ah (af 2) (ah (fC (.int 16)) (ah (fC (.int 0)) (ah (f2 aA (af 5) (fC (.int 1))) (ah (af 4) (aw)))))))) (fC (.int 1)))) (bI (cF (ah (cF (ah (f2 aA (af 3) (fC (.int 0))) (ah (af 6) (aw)))) (ah (cF (ah (f2 aA (af 3) (fC (.int 1))) (ah (af 7) (aw)))) (aw))))))))))))
abbrev rH:QZ:=top 34
theorem GR:bw ["_law_script","_law_one","_law_other","_law_many","_law_tables","_law_pair","_law_k","_law_view","_law_put"] ["_law_script"] (aB rH):=‹2›
noncomputable def qR:cx:=aH (D4 (fR (bv cP 1 8) (ah (af 0) (aw))) (gT 2 (og [1,2]))) (aH (bG 3 (fL fw (ah (f2 aA (af 1) (fC (.int 0))) (aw)))) (aH (bG 4 (fR (bv cJ 5 12) (ah (af 1) (ah (af 2) (ah (aP (af 0) (aG) (bp (fC (.int 12)))) (ah (fC (.int 2)) (ah (fC (.int 10)) (aw)))))))) (aH (bG 5 (fC (.obj "Join" [] []))) (aH (fT (oG (ah (fC (.int 12)) (ah (fL qg (ah (fL nM (ah (fL fw (ah (af 0) (aw))) (ah (fC (.int 15)) (aw)))) (ah (fC (.int 52)) (aw)))) (aw)))) (gN 6) (aH (bG 7 (fR (bv iq 5 10) (ah (af 1) (ah (af 2) (ah (af 4) (ah (lE "got" [("Pair",(bv gF 3 3)),("Join",(bv eP 3 5))] (af 5) (ah (cF (ah (af 1) (ah (af 2) (aw)))) (ah (af 4) (aw)))) (ah (fR (bv cU 2 3) (ah (af 0) (ah (af 6) (aw)))) (aw)))))))) (aH (bG 8 (lE "put" [("Pair",(bv iR 4 4)),("Join",(bv fu 4 10))] (af 5) (ah (cF (ah (af 1) (ah (af 2) (aw)))) (ah (af 4) (ah (af 7) (aw)))))) (aH (ik (ya (rC (eX (o8 "tuple" (af 8)))) (fB (f2 vR (fL fw (ah (af 8) (aw))) (fC (.int 2))))) (bI (fC (.bl false))) (bZ)) (aH (ik (ya (rC (eX (fR (bv d7 2 3) (ah (f2 aA (af 8) (fC (.int 0))) (ah (af 3) (aw)))))) (rC (eX (fR (bv d7 2 3) (ah (f2 aA (af 8) (fC (.int 1))) (ah (af 3) (aw))))))) (bI (fC (.bl false))) (bZ)) (aH (ik (ya (rC (eX (fR (bx 12) (ah (lE "got" [("Pair",(bv gF 3 3)),("Join",(bv eP 3 5))] (af 5) (ah (cF (ah (af 1) (ah (af 2) (aw)))) (ah (af 8) (aw)))) (ah (af 7) (aw)))))) (rC (eX (fR (bv fJ 4 10) (ah (af 1) (ah (af 4) (ah (af 8) (ah (af 7) (aw))))))))) (bI (fC (.bl false))) (bZ)) (aH (ik (fB (f2 Gk (f2 bS (fL fw (ah (f2 aA (af 8) (fC (.int 0))) (aw))) (fL fw (ah (f2 aA (af 8) (fC (.int 1))) (aw)))) (fC (.int 60)))) (bI (fC (.bl true))) (bZ)) (aH (bG 4 (af 8)) (cD [6,7,8] bZ))))))))) (bI (fC (.bl true)))))))
theorem IG:(["_law_row_here","_law_many"]:List Str).Nodup:=by decide +kernel
theorem HW:(["_law_row_here","_law_many"]:List Str).Nodup:=by decide +kernel
theorem L5:(["_law_one_row","_law_wide"]:List Str).Nodup:=by decide +kernel
theorem Kx:(["_law_one_row","_law_many","_law_wide"]:List Str).Nodup:=by decide +kernel
theorem Ig:(["_law_row_here","_law_many","_law_tables"]:List Str).Nodup:=by decide +kernel
theorem HZ:(["_law_more","_law_many"]:List Str).Nodup:=by decide +kernel
theorem LA:(["row","many"]:List Str).Nodup:=by decide +kernel
theorem K5:(["row","others","many"]:List Str).Nodup:=by decide +kernel
theorem Kp:(["row","many","taken"]:List Str).Nodup:=by decide +kernel
theorem IP:(["row","many","others"]:List Str).Nodup:=by decide +kernel
theorem Jq:(["row","end"]:List Str).Nodup:=by decide +kernel
theorem IK:(["row","many","end"]:List Str).Nodup:=by decide +kernel
theorem Jb:(["_law_key","_law_found"]:List Str).Nodup:=by decide +kernel
theorem Js:(["_law_word","_law_other"]:List Str).Nodup:=by decide +kernel
theorem Fz:(["_law_row_here","_law_many"]:List Str).Nodup:=by decide +kernel
theorem Fc:(["_law_row_here","_law_many","_law_key"]:List Str).Nodup:=by decide +kernel
theorem Fi:(["_law_k","_law_word","_law_spare","_law_y"]:List Str).Nodup:=by decide +kernel
theorem Fl:(["_law_k","_law_word","_law_spare","_law_y"]:List Str).Nodup:=by decide +kernel
section
variable{P:QK}{w:QJ}{K:PD}{mg:Str->Option QI}{base:QN}[bd]
theorem tD{f:QL}(bH:mg "len"=none):cV P w K mg base 0 ["_law_one","_law_tables","_law_put","_law_view","_law_many","_law_wide","_law_brought","_law_there","_law_row_here","_law_hid"] "_law_stays" iG f fJ:=
 ⟨λcdv A outer s H E hr hp=>(ao (aD (i:=4) sV.nd rfl ‹1› (aZ bJ rfl bH PySem.boot_len (ae (ay (aa (xv 0)) (ai) (λ_ _=>rfl)) (aj)))) (ao (aD (i:=5) sV.nd rfl ‹1› (aq aW au (aa (xv 4)) (aZ bJ rfl bH PySem.boot_len (ae (ay (aa (xv 0)) (ai) (λ_ _=>rfl)) (aj))))) (ao (by first|exact rQ (i:=6) sV.nd rfl ‹1› (N:=["_law_row_here","_law_many"]) (ix:=[none,some 4]) rfl (.of rfl) (bL rfl) (bU (aa (xv 3))) ⟨λ_ _ _ _ _ _=>⟨aI (i:=0) IG rfl (Or.inl rfl),dg,bh (aa (xv 0)) (bA) (bB (aa (xv 1)))⟩⟩|exact aD (i:=6) sV.nd rfl ‹1› (eA (N:=["_law_row_here","_law_many"]) (ix:=[none,some 4]) rfl (.of rfl) (bL rfl) (bU (aa (xv 3))) ⟨λ_ _ _ _ _ _=>⟨aI (i:=0) IG rfl (Or.inl rfl),dg,bh (aa (xv 0)) (bA) (bB (aa (xv 1)))⟩⟩)) (ao (by first|exact rQ (i:=7) sV.nd rfl ‹1› (N:=["_law_row_here","_law_many"]) (ix:=[none,some 4]) rfl (.of rfl) (bL rfl) (bU (ay (aa (xv 2)) (ai) (λ_ _=>rfl))) ⟨λ_ _ _ _ _ _=>⟨aI (i:=0) HW rfl (Or.inl rfl),dg,bh (aa (xv 0)) (bA) (bB (aa (xv 1)))⟩⟩|exact aD (i:=7) sV.nd rfl ‹1› (eA (N:=["_law_row_here","_law_many"]) (ix:=[none,some 4]) rfl (.of rfl) (bL rfl) (bU (ay (aa (xv 2)) (ai) (λ_ _=>rfl))) ⟨λ_ _ _ _ _ _=>⟨aI (i:=0) HW rfl (Or.inl rfl),dg,bh (aa (xv 0)) (bA) (bB (aa (xv 1)))⟩⟩)) (bV [0] (ao (cZ hp rfl (bU (ay (aa (xv 2)) (ai) (λ_ _=>rfl))) (aI (i:=8) sV.nd rfl ‹1›) (az (bY (aX (dG hr.units) au (aa (xv 8)) (eA (N:=["_law_one_row","_law_wide"]) (ix:=[none,some 5]) rfl (.of rfl) (bL rfl) (bU (aa (xv 3))) ⟨λ_ _ _ _ _ _=>⟨aI (i:=0) L5 rfl (Or.inl rfl),dg,bh (aa (xv 0)) (bA) (bB (aa (xv 1)))⟩⟩) rfl) (az (bY (wZ (js (aX (dG hr.units) au (aa (xv 8)) (ay (aa (xv 1)) (ai) (λ_ _=>rfl)) rfl) (hZ (aX (vI hr.units) au (bh (aa (xv 8)) (bA) (bB (aa (xv 4)))) (aa (xv 7)) rfl)))) (az (aN (du))) (aL))) (aL)))) (bV [0,7] (ao (cZ hp rfl (bU (ay (aa (xv 2)) (ai) (λ_ _=>rfl))) (aI (i:=8) sV.nd rfl ‹1›) (az (bY (wZ (kK (aX (dG hr.units) au (aa (xv 8)) (eA (N:=["_law_one_row","_law_many","_law_wide"]) (ix:=[none,some 4,some 5]) rfl (.of rfl) (bL rfl) (bU (aa (xv 3))) ⟨λ_ _ _ _ _ _=>⟨aI (i:=0) Kx rfl (Or.inl rfl),dg,aq aW au (bh (aa (xv 0)) (bA) (bB (aa (xv 1)))) (bh (aa (xv 0)) (bB (aa (xv 2))) (bA))⟩⟩) rfl) (iS (aX (dG hr.units) au (aa (xv 8)) (ay (aa (xv 1)) (ai) (λ_ _=>rfl)) rfl)))) (az (aN (du))) (aL)))) (bV [0,3,5,7] (ao (cZ hp rfl (bU (ay (aa (xv 1)) (ai) (λ_ _=>rfl))) (aI (i:=8) sV.nd rfl ‹1›) (az (bY (wZ (kK (aX (dG hr.units) au (bh (aa (xv 8)) (bA) (bB (aa (xv 4)))) (aa (xv 6)) rfl) (iS (aX (dG hr.units) au (aa (xv 8)) (ay (aa (xv 2)) (ai) (λ_ _=>rfl)) rfl)))) (az (aN (du))) (aL)))) (ao (by first|exact rQ (i:=9) sV.nd rfl ‹1› (N:=["_law_row_here","_law_many","_law_tables"]) (ix:=[none,some 4,some 1]) rfl (.of rfl) (bL rfl) (bU (ay (aa (xv 1)) (ai) (λ_ _=>rfl))) ⟨λ_ _ _ _ _ _=>⟨aI (i:=0) Ig rfl (Or.inl rfl),eJ (aX (dG hr.units) au (bh (aa (xv 0)) (bA) (bB (aa (xv 1)))) (eA (N:=["_law_more","_law_many"]) (ix:=[none,some 1]) rfl (.of rfl) (bL rfl) (bU (ay (aa (xv 2)) (ai) (λ_ _=>rfl))) ⟨λ_ _ _ _ _ _=>⟨aI (i:=0) HZ rfl (Or.inl rfl),dg,bh (aa (xv 0)) (bA) (bB (aa (xv 1)))⟩⟩) rfl),aa (xv 0)⟩⟩|exact aD (i:=9) sV.nd rfl ‹1› (eA (N:=["_law_row_here","_law_many","_law_tables"]) (ix:=[none,some 4,some 1]) rfl (.of rfl) (bL rfl) (bU (ay (aa (xv 1)) (ai) (λ_ _=>rfl))) ⟨λ_ _ _ _ _ _=>⟨aI (i:=0) Ig rfl (Or.inl rfl),eJ (aX (dG hr.units) au (bh (aa (xv 0)) (bA) (bB (aa (xv 1)))) (eA (N:=["_law_more","_law_many"]) (ix:=[none,some 1]) rfl (.of rfl) (bL rfl) (bU (ay (aa (xv 2)) (ai) (λ_ _=>rfl))) ⟨λ_ _ _ _ _ _=>⟨aI (i:=0) HZ rfl (Or.inl rfl),dg,bh (aa (xv 0)) (bA) (bB (aa (xv 1)))⟩⟩) rfl),aa (xv 0)⟩⟩)) (bV [0,1,3,5,7,8] (ao (cZ hp rfl (bU (aa (xv 9))) (aI (i:=8) sV.nd rfl ‹1›) (ao (bY (wZ (kK (aX (dG hr.units) au (bh (aa (xv 8)) (bA) (bB (aa (xv 4)))) (aa (xv 6)) rfl) (iS (aX (dG hr.units) au (aa (xv 8)) (ay (aa (xv 2)) (ai) (λ_ _=>rfl)) rfl)))) (az (aN (du))) (aL)) (bV [8] aL))) (az (aN (du))))))))))))))))⟩
theorem tq{n:Nat}{f:QL}(bF:mg "isinstance"=none)(sj:mg "str"=none)(km:mg "bool"=none)(h7:mg "int"=none)(aM:mg "tuple"=none)(bH:mg "len"=none)(kX:mg "zip"=none){bx:List D->R D}(fU:Callee P w K mg base (0+n) "_law_alike" ["_law_found","_law_due"] bx)(L__law_alike:Ar 2 bx):cV P w K mg base (0+n) ["_law_found","_law_due","_law_one","_law_other"] "_law_alike" fN f (dP bx):=
 ⟨λcdv A outer s H E hr hp=>(ao (bY (df (gY wv rfl bF rfl sj Qw (aa (xv 1)))) (az (aN (qE (gY wv rfl bF rfl sj Qw (aa (xv 0))) (vy (qI (dz hr.units) au (aa (xv 0)) (aa (xv 1)) (bW _)))))) (aL)) (ao (bY (wZ (js (df (gY mq rfl bF rfl km Qx (aa (xv 1)))) (hZ (df (gY mq rfl bF rfl km Qx (aa (xv 0))))))) (az (aN (qE (gY mq rfl bF rfl km Qx (aa (xv 1))) (qE (gY mq rfl bF rfl km Qx (aa (xv 0))) (vy (qI (dz hr.units) au (aa (xv 0)) (aa (xv 1)) (bW _))))))) (aL)) (ao (bY (df (gY wc rfl bF rfl h7 Qy (aa (xv 1)))) (az (aN (qE (gY wc rfl bF rfl h7 Qy (aa (xv 0))) (vy (qI (dz hr.units) au (aa (xv 0)) (aa (xv 1)) (bW _)))))) (aL)) (ao (bY (wZ (js (jf (df (gY qV rfl bF rfl aM Qz (aa (xv 0))))) (hZ (aX (rp hr.units) au (aZ bJ rfl bH PySem.boot_len (ae (aa (xv 0)) (aj))) (aZ bJ rfl bH PySem.boot_len (ae (aa (xv 1)) (aj))) (bW _))))) (az (aN (du))) (aL)) (ao (cZ hp rfl (vL rfl kX (ae (aa (xv 0)) (ae (aa (xv 1)) (aj)))) (kH (g:=og [2,3]) rfl (cO (aI (i:=2) sU.nd rfl ‹1›) (cO (aI (i:=3) sU.nd rfl ‹1›) (i5)))) (ao (bY (jf (df (ax fU L__law_alike hr ‹0› (ae (aa (xv 2)) (ae (aa (xv 3)) (aj)))))) (az (aN (du))) (aL)) (bV [2,3] aL))) (az (aN (du))))))))⟩
theorem lL{f__law_alike:QL}{fd__law_alike:Rm}(F__law_alike:xQ K "_law_alike" "_law_alike" fN f__law_alike fd__law_alike)(kB:Binds K fd__law_alike ["_law_found","_law_due"] [])(m__law_alike:mg "_law_alike"=some (.ref f__law_alike))(bF:mg "isinstance"=none)(sj:mg "str"=none)(km:mg "bool"=none)(h7:mg "int"=none)(aM:mg "tuple"=none)(bH:mg "len"=none)(kX:mg "zip"=none):∀n:Nat,Callee P w K mg base (0+n) "_law_alike" ["_law_found","_law_due"] (bx n)
 |0=>by
  rw[bx];exact fG 0 F__law_alike kB m__law_alike
 |n+1=>by
  have ih:=lL F__law_alike kB m__law_alike bF sj km h7 aM bH kX n;rw[jc];exact bC F__law_alike kB m__law_alike sU (cV.ok (tq bF sj km h7 aM bH kX ih (kU n)))
theorem vS{f:QL}:cV P w K mg base 0 ["self","forms","tables"] "Pair.got" j6 f gF:=
 ⟨λcdv A outer s H E hr hp=>(az (aN (ay (aa (xv 2)) (ai) (λ_ _=>rfl))))⟩
theorem Bg{f:QL}(yp:mg "dict"=none):cV P w K mg base 0 ["many","rows"] "by_key" oq f gb:=
 ⟨λcdv A outer s H E hr hp=>(az (aN (bK (yE rfl hr.units) rfl yp PyProof.Rows.boot_dict (ae (eA (N:=["row","many"]) (ix:=[none,some 0]) rfl (.of rfl) (bL rfl) (bU (aa (xv 1))) ⟨λ_ _ _ _ _ _=>⟨aI (i:=0) LA rfl (Or.inl rfl),dg,bP (ae (bh (aa (xv 0)) (bA) (bB (aa (xv 1)))) (ae (aa (xv 0)) (aj)))⟩⟩) (aj)))))⟩
theorem xE{f:QL}(fZ:Callee P w K mg base 1 "by_key" ["many","rows"] (bv gb 2 2))(bH:mg "len"=none)(aM:mg "tuple"=none):cV P w K mg base 1 ["self","forms","tables","many","others"] "Join.got" kz f eP:=
 ⟨λcdv A outer s H E hr hp=>(ao (aD (i:=3) wL.nd rfl ‹1› (aZ bJ rfl bH PySem.boot_len (ae (ay (ay (aa (xv 1)) (ai) (λ_ _=>rfl)) (ai) (λ_ _=>rfl)) (aj)))) (ao (aD (i:=4) wL.nd rfl ‹1› (ax fZ aY hr ‹0› (ae (aa (xv 3)) (ae (ay (aa (xv 2)) (ai) (λ_ _=>rfl)) (aj))))) (az (aN (bK cj rfl aM Qz (ae (eA (N:=["row","others","many"]) (ix:=[none,some 4,some 3]) rfl (.of rfl) (bL rfl) (bU (ay (aa (xv 2)) (ai) (λ_ _=>rfl))) ⟨λ_ _ _ _ _ _=>⟨aI (i:=0) K5 rfl (Or.inl rfl),eJ (aX (Hv hr.units) au (bh (aa (xv 0)) (bA) (bB (aa (xv 2)))) (aa (xv 1)) rfl),aq aW au (aa (xv 0)) (bh (zu hr.units (aa (xv 1)) (bh (aa (xv 0)) (bA) (bB (aa (xv 2)))) (λ_ _=>rfl)) (bB (aa (xv 2))) (bA))⟩⟩) (aj)))))))⟩
theorem sq{f:QL}(bD:mg "range"=none)(bH:mg "len"=none):cV P w K mg base 0 ["_law_table","_law_many","_law_k"] "_law_rising" hU f d7:=
 ⟨λcdv A outer s H E hr hp=>(ao (cZ hp rfl (gR rfl bD (ae (aq pP p8 (aZ bJ rfl bH PySem.boot_len (ae (aa (xv 0)) (aj))) (ai)) (aj))) (aI (i:=2) qW.nd rfl ‹1›) (ao (bY (jf (aX (nQ hr.units) au (bh (ay (aa (xv 0)) (aa (xv 2)) (λ_ _=>rfl)) (bA) (bB (aa (xv 1)))) (bh (ay (aa (xv 0)) (aq aW au (aa (xv 2)) (ai)) (λ_ _=>rfl)) (bA) (bB (aa (xv 1)))) (bW _))) (az (aN (du))) (aL)) (bV [2] aL))) (az (aN (du))))⟩
theorem xt{f:QL}:cV P w K mg base 0 ["self","forms","tables","view"] "Pair.put" kJ f iR:=
 ⟨λcdv A outer s H E hr hp=>(az (aN (bP (ae (aa (xv 3)) (ae (ay (aa (xv 2)) (ai) (λ_ _=>rfl)) (aj))))))⟩
theorem vA{f cL T:QL}(aM:mg "tuple"=none)(dS:mg "sorted"=none)(lamB:AK mg base cL T)(lamC:ud K f (.ref cL))(lamT:∀H,bd.tab H->H T=some (.ext (oI T ⟨6,34,6,56⟩ ((("sorted_by":Str)++".<locals>.")++"<lambda>")))):Dm P w K mg base 0 ["many","rows"] "sorted_by" jl f ip:=
 ⟨fun cdv A outer s H E hc hr hp=>by
  obtain rfl:=hc.one lamC;exact(az (aN (bK cj rfl aM Qz (ae (AX (j:=0) hr rfl dS lamB rfl lamT (aa (xv 1)) rfl rfl (Or.inr (Or.inl rfl)) rfl rfl rfl (λ_ _ _=>rfl) rfl rfl rfl (by decide) rfl rfl rfl rfl rfl) (aj)))))⟩
theorem wN{f:QL}(fZ:Callee P w K mg base 1 "by_key" ["many","rows"] (bv gb 2 2))(lR:Callee P w K mg base 1 "sorted_by" ["many","rows"] (bv ip 2 2))(iz:mg "list"=none):cV P w K mg base 1 ["many","rows","others","taken"] "standing" jY f gP:=
 ⟨λcdv A outer s H E hr hp=>(ao (aD (i:=3) vV.nd rfl ‹1› (ax fZ aY hr ‹0› (ae (aa (xv 0)) (ae (aa (xv 1)) (aj))))) (az (aN (ax lR aY hr ‹0› (ae (aa (xv 0)) (ae (aq aW au (bK yd rfl iz QA (ae (aa (xv 1)) (aj))) (eA (N:=["row","many","taken"]) (ix:=[none,some 0,some 3]) rfl (.of rfl) (bL rfl) (bU (aa (xv 2))) ⟨λ_ _ _ _ _ _=>⟨aI (i:=0) Kp rfl (Or.inl rfl),eJ (aX (p5 hr.units) au (bh (aa (xv 0)) (bA) (bB (aa (xv 1)))) (aa (xv 2)) rfl),aa (xv 0)⟩⟩)) (aj)))))))⟩
theorem xx{f:QL}(fZ:Callee P w K mg base 1 "by_key" ["many","rows"] (bv gb 2 2))(ky:Callee P w K mg base 2 "standing" ["many","rows","others"] (bv gP 3 4))(bH:mg "len"=none):cV P w K mg base 2 ["self","forms","tables","view","many","end","others","hidden","one","other"] "Join.put" j4 f fu:=
 ⟨λcdv A outer s H E hr hp=>(ao (aD (i:=4) wo.nd rfl ‹1› (aZ bJ rfl bH PySem.boot_len (ae (ay (ay (aa (xv 1)) (ai) (λ_ _=>rfl)) (ai) (λ_ _=>rfl)) (aj)))) (ao (aD (i:=5) wo.nd rfl ‹1› (aq aW au (aa (xv 4)) (aZ bJ rfl bH PySem.boot_len (ae (ay (ay (aa (xv 1)) (ai) (λ_ _=>rfl)) (ai) (λ_ _=>rfl)) (aj))))) (ao (aD (i:=6) wo.nd rfl ‹1› (ax fZ aY hr ‹0› (ae (aa (xv 4)) (ae (ay (aa (xv 2)) (ai) (λ_ _=>rfl)) (aj))))) (ao (by first|exact rQ (i:=7) wo.nd rfl ‹1› (N:=["row","many","others"]) (ix:=[none,some 4,some 6]) rfl (.of rfl) (bL rfl) (bU (ay (aa (xv 2)) (ai) (λ_ _=>rfl))) ⟨λ_ _ _ _ _ _=>⟨aI (i:=0) IP rfl (Or.inl rfl),eJ (aX (p5 hr.units) au (bh (aa (xv 0)) (bA) (bB (aa (xv 1)))) (aa (xv 2)) rfl),aa (xv 0)⟩⟩|exact aD (i:=7) wo.nd rfl ‹1› (eA (N:=["row","many","others"]) (ix:=[none,some 4,some 6]) rfl (.of rfl) (bL rfl) (bU (ay (aa (xv 2)) (ai) (λ_ _=>rfl))) ⟨λ_ _ _ _ _ _=>⟨aI (i:=0) IP rfl (Or.inl rfl),eJ (aX (p5 hr.units) au (bh (aa (xv 0)) (bA) (bB (aa (xv 1)))) (aa (xv 2)) rfl),aa (xv 0)⟩⟩)) (ao (aD (i:=8) wo.nd rfl ‹1› (ax ky aY hr ‹0› (ae (aa (xv 4)) (ae (eA (N:=["row","end"]) (ix:=[none,some 5]) rfl (.of rfl) (bL rfl) (bU (aa (xv 3))) ⟨λ_ _ _ _ _ _=>⟨aI (i:=0) Jq rfl (Or.inl rfl),dg,bh (aa (xv 0)) (bA) (bB (aa (xv 1)))⟩⟩) (ae (aa (xv 7)) (aj)))))) (ao (aD (i:=9) wo.nd rfl ‹1› (ax ky aY hr ‹0› (ae (aa (xv 4)) (ae (eA (N:=["row","many","end"]) (ix:=[none,some 4,some 5]) rfl (.of rfl) (bL rfl) (bU (aa (xv 3))) ⟨λ_ _ _ _ _ _=>⟨aI (i:=0) IK rfl (Or.inl rfl),dg,aq aW au (bh (aa (xv 0)) (bA) (bB (aa (xv 1)))) (bh (aa (xv 0)) (bB (aa (xv 2))) (bA))⟩⟩) (ae (ay (aa (xv 2)) (ai) (λ_ _=>rfl)) (aj)))))) (az (aN (bP (ae (aa (xv 8)) (ae (aa (xv 9)) (aj))))))))))))⟩
theorem rq{f:QL}(aM:mg "tuple"=none)(dS:mg "sorted"=none)(iz:mg "list"=none):cV P w K mg base 0 ["_law_many","_law_rows_here","_law_found","_law_row_here"] "_law_sorted" gX f bu:=
 ⟨λcdv A outer s H E hr hp=>(ao (fK (i:=2) sf.nd rfl ‹1› (o9)) (ao (cZ hp rfl (bU (aa (xv 1))) (aI (i:=3) sf.nd rfl ‹1›) (ao (Dd (hr.units) (xv 2) (bh (aa (xv 3)) (bA) (bB (aa (xv 0)))) (aa (xv 3))) (bV [3] aL))) (eM 2 (az (aN (bK cj rfl aM Qz (ae (eA (N:=["_law_key","_law_found"]) (ix:=[none,some 2]) rfl (.of rfl) (bL rfl) (bU (aZ kn rfl dS iJ (ae (bK (yN rfl) rfl iz QA (ae (aa (xv 2)) (aj))) (aj)))) ⟨λ_ _ _ _ _ _=>⟨aI (i:=0) Jb rfl (Or.inl rfl),dg,zu hr.units (aa (xv 1)) (aa (xv 0)) (λ_ _=>rfl)⟩⟩) (aj))))))))⟩
theorem uZ{f:QL}:cV P w K mg base 0 ["_law_x"] "_law_next" jh f aJ:=
 ⟨λcdv A outer s H E hr hp=>(az (aN (aq bo bn (aq aW au (aq aW au (aq j8 kF (aa (xv 0)) (aa (xv 0))) (aq j8 kF (ai) (aa (xv 0)))) (ai)) (ai))))⟩
theorem tu{n:Nat}{f:QL}(aC:Callee P w K mg base 1 "_law_next" ["_law_x"] (bv aJ 1 1))(bz:Callee P w K mg base 1 "_law_sorted" ["_law_many","_law_rows_here"] (bv bu 2 4))(bH:mg "len"=none)(gf:mg "max"=none)(h7:mg "int"=none)(aM:mg "tuple"=none)(bD:mg "range"=none){aE:List D->R D}(fS:Callee P w K mg base (1+n) "_law_value" ["_law_kind_here","_law_x"] aE)(L__law_value:Ar 2 aE){aR:List D->R D}(fA:Callee P w K mg base (1+n) "_law_row" ["_law_form_here","_law_many","_law_head","_law_tail"] aR)(L__law_row:Ar 4 aR){aV:List D->R D}(je:Callee P w K mg base (1+n) "_law_rows" ["_law_form_here","_law_x","_law_many"] aV)(L__law_rows:Ar 3 aV):cV P w K mg base (1+n) ["_law_kind_here","_law_x"] "_law_value" fP f (fO aE aR aV):=
 ⟨λcdv A outer s H E hr hp=>(ao (bY (aX (dz hr.units) au (ay (aa (xv 0)) (ai) (λ_ _=>rfl)) (cK) (bW _)) (az (aN (aq aW au (ay (aa (xv 0)) (ai) (λ_ _=>rfl)) (aq bo bn (aq gO gx (aa (xv 1)) (ai)) (aq aW au (aq pP p8 (ay (aa (xv 0)) (ai) (λ_ _=>rfl)) (ay (aa (xv 0)) (ai) (λ_ _=>rfl))) (ai)))))) (aL)) (ao (bY (aX (dz hr.units) au (ay (aa (xv 0)) (ai) (λ_ _=>rfl)) (cK) (bW _)) (az (aN (ay (ay (aa (xv 0)) (ai) (λ_ _=>rfl)) (aq bo bn (aa (xv 1)) (aZ bJ rfl bH PySem.boot_len (ae (ay (aa (xv 0)) (ai) (λ_ _=>rfl)) (aj)))) (λ_ _=>rfl)))) (aL)) (az (aN (ax je L__law_rows hr ‹0› (ae (ay (aa (xv 0)) (ai) (λ_ _=>rfl)) (ae (aq bf bT (aa (xv 1)) (ai)) (ae (aZ (ki rfl) rfl gf QB (ae (aq bo bn (aa (xv 1)) (ai)) (ae (bK xZ rfl h7 Qy (ae (ay (aa (xv 0)) (ai) (λ_ _=>rfl)) (aj))) (aj)))) (aj)))))))))⟩
theorem wj{n:Nat}{f:QL}(aC:Callee P w K mg base 1 "_law_next" ["_law_x"] (bv aJ 1 1))(bz:Callee P w K mg base 1 "_law_sorted" ["_law_many","_law_rows_here"] (bv bu 2 4))(bH:mg "len"=none)(gf:mg "max"=none)(h7:mg "int"=none)(aM:mg "tuple"=none)(bD:mg "range"=none){aE:List D->R D}(fS:Callee P w K mg base (1+n) "_law_value" ["_law_kind_here","_law_x"] aE)(L__law_value:Ar 2 aE){aR:List D->R D}(fA:Callee P w K mg base (1+n) "_law_row" ["_law_form_here","_law_many","_law_head","_law_tail"] aR)(L__law_row:Ar 4 aR){aV:List D->R D}(je:Callee P w K mg base (1+n) "_law_rows" ["_law_form_here","_law_x","_law_many"] aV)(L__law_rows:Ar 3 aV):cV P w K mg base (1+n) ["_law_form_here","_law_many","_law_head","_law_tail","_law_row_here","_law_name_here","_law_kind_here"] "_law_row" iV f (ku aE aR aV):=
 ⟨λcdv A outer s H E hr hp=>(ao (fK (i:=4) vZ.nd rfl ‹1› (ko (aj))) (ao (cZ hp rfl (bU (aq aW au (ay (aa (xv 0)) (ai) (λ_ _=>rfl)) (ay (aa (xv 0)) (ai) (λ_ _=>rfl)))) (kH (g:=og [5,6]) rfl (cO (aI (i:=5) vZ.nd rfl ‹1›) (cO (aI (i:=6) vZ.nd rfl ‹1›) (i5)))) (ao (bY (wM [4] (aX (nQ hr.units) au (aZ bJ rfl bH PySem.boot_len (ae (aa (xv 4)) (aj))) (aa (xv 1)) (bW _))) (ao (aD (i:=2) vZ.nd rfl ‹1› (ax aC aY hr ‹0› (ae (aa (xv 2)) (aj)))) (az (kM QG QH dI eS (xv 4) (ae (ax fS L__law_value hr ‹0› (ae (aa (xv 6)) (ae (aa (xv 2)) (aj)))) (aj))))) (ao (aD (i:=3) vZ.nd rfl ‹1› (ax aC aY hr ‹0› (ae (aa (xv 3)) (aj)))) (az (kM QG QH dI eS (xv 4) (ae (ax fS L__law_value hr ‹0› (ae (aa (xv 6)) (ae (aa (xv 3)) (aj)))) (aj)))))) (bV [5,6] aL))) (eM 4 (az (aN (bK cj rfl aM Qz (ae (aa (xv 4)) (aj))))))))⟩
theorem vz{n:Nat}{f:QL}(aC:Callee P w K mg base 1 "_law_next" ["_law_x"] (bv aJ 1 1))(bz:Callee P w K mg base 1 "_law_sorted" ["_law_many","_law_rows_here"] (bv bu 2 4))(bH:mg "len"=none)(gf:mg "max"=none)(h7:mg "int"=none)(aM:mg "tuple"=none)(bD:mg "range"=none){aE:List D->R D}(fS:Callee P w K mg base (1+n) "_law_value" ["_law_kind_here","_law_x"] aE)(L__law_value:Ar 2 aE){aR:List D->R D}(fA:Callee P w K mg base (1+n) "_law_row" ["_law_form_here","_law_many","_law_head","_law_tail"] aR)(L__law_row:Ar 4 aR){aV:List D->R D}(je:Callee P w K mg base (1+n) "_law_rows" ["_law_form_here","_law_x","_law_many"] aV)(L__law_rows:Ar 3 aV):cV P w K mg base (1+n) ["_law_form_here","_law_x","_law_many","_law_rows_here","_law_k"] "_law_rows" iw f (ja aE aR aV):=
 ⟨λcdv A outer s H E hr hp=>(ao (fK (i:=3) uU.nd rfl ‹1› (ko (aj))) (ao (cZ hp rfl (gR rfl bD (ae (aa (xv 2)) (aj))) (aI (i:=4) uU.nd rfl ‹1›) (ao (aD (i:=1) uU.nd rfl ‹1› (ax aC aY hr ‹0› (ae (aa (xv 1)) (aj)))) (ao (kM QG QH dI eS (xv 3) (ae (ax fA L__law_row hr ‹0› (ae (aa (xv 0)) (ae (ai) (ae (ai) (ae (aa (xv 1)) (aj)))))) (aj))) (bV [4] aL)))) (eM 3 (az (aN (ax bz aY hr ‹0› (ae (aZ bJ rfl bH PySem.boot_len (ae (ay (aa (xv 0)) (ai) (λ_ _=>rfl)) (aj))) (ae (aa (xv 3)) (aj)))))))))⟩
theorem md{f__law_value:QL}{fd__law_value:Rm}(F__law_value:xQ K "_law_value" "_law_value" fP f__law_value fd__law_value)(j7:Binds K fd__law_value ["_law_kind_here","_law_x"] [])(m__law_value:mg "_law_value"=some (.ref f__law_value)){f__law_row:QL}{fd__law_row:Rm}(F__law_row:xQ K "_law_row" "_law_row" iV f__law_row fd__law_row)(nW:Binds K fd__law_row ["_law_form_here","_law_many","_law_head","_law_tail"] [])(m__law_row:mg "_law_row"=some (.ref f__law_row)){f__law_rows:QL}{fd__law_rows:Rm}(F__law_rows:xQ K "_law_rows" "_law_rows" iw f__law_rows fd__law_rows)(lJ:Binds K fd__law_rows ["_law_form_here","_law_x","_law_many"] [])(m__law_rows:mg "_law_rows"=some (.ref f__law_rows))(aC:Callee P w K mg base 1 "_law_next" ["_law_x"] (bv aJ 1 1))(bz:Callee P w K mg base 1 "_law_sorted" ["_law_many","_law_rows_here"] (bv bu 2 4))(bH:mg "len"=none)(gf:mg "max"=none)(h7:mg "int"=none)(aM:mg "tuple"=none)(bD:mg "range"=none):∀n:Nat,Callee P w K mg base (1+n) "_law_value" ["_law_kind_here","_law_x"] (aE n)/\Callee P w K mg base (1+n) "_law_row" ["_law_form_here","_law_many","_law_head","_law_tail"] (aR n)/\Callee P w K mg base (1+n) "_law_rows" ["_law_form_here","_law_x","_law_many"] (aV n)
 |0=>by
  rw[aE];rw[aR];rw[aV];exact⟨fG 1 F__law_value j7 m__law_value,fG 1 F__law_row nW m__law_row,fG 1 F__law_rows lJ m__law_rows⟩
 |n+1=>by
  have ih:=md F__law_value j7 m__law_value F__law_row nW m__law_row F__law_rows lJ m__law_rows aC bz bH gf h7 aM bD n;rw[eD];rw[iy];rw[gJ];exact⟨bC F__law_value j7 m__law_value sW (cV.ok (tu aC bz bH gf h7 aM bD ih.1 (iB n) ih.2.1 (hJ n) ih.2.2 (i3 n))),bC F__law_row nW m__law_row vZ (cV.ok (wj aC bz bH gf h7 aM bD ih.1 (iB n) ih.2.1 (hJ n) ih.2.2 (i3 n))),bC F__law_rows lJ m__law_rows uU (cV.ok (vz aC bz bH gf h7 aM bD ih.1 (iB n) ih.2.1 (hJ n) ih.2.2 (i3 n)))⟩
theorem rj{f:QL}(fA:Callee P w K mg base 13 "_law_row" ["_law_form_here","_law_many","_law_head","_law_tail"] (aR 12))(aM:mg "tuple"=none):cV P w K mg base 13 ["_law_fields","_law_x"] "_law_values" gW f bQ:=
 ⟨λcdv A outer s H E hr hp=>(az (aN (ax fA (hJ 12) hr ‹0› (ae (bP (ae (bK cj rfl aM Qz (ae (aa (xv 0)) (aj))) (ae (bP (aj)) (aj)))) (ae (ai) (ae (ai) (ae (aa (xv 1)) (aj))))))))⟩
theorem wx{f:QL}(kX:mg "zip"=none):cV P w K mg base 0 ["_law_fields","_law_key","_law_field","_law_value_here","_law_kind_here"] "_law_fit" kj f gL:=
 ⟨λcdv A outer s H E hr hp=>(ao (cZ hp rfl (vL rfl kX (ae (aa (xv 0)) (ae (aa (xv 1)) (aj)))) (kH (g:=og [2,3]) rfl (cO (aI (i:=2) wC.nd rfl ‹1›) (cO (aI (i:=3) wC.nd rfl ‹1›) (i5)))) (ao (aD (i:=4) wC.nd rfl ‹1› (ay (aa (xv 2)) (ai) (λ_ _=>rfl))) (ao (bY (wZ (kK (aX (dz hr.units) au (ay (aa (xv 4)) (ai) (λ_ _=>rfl)) (cK) (bW _)) (iS (wZ (js (aX (nQ hr.units) au (aa (xv 3)) (ay (aa (xv 4)) (ai) (λ_ _=>rfl)) (bW _)) (hZ (aX zz ml (aa (xv 3)) (ay (aa (xv 4)) (ai) (λ_ _=>rfl)) (bW _)))))))) (az (aN (du))) (aL)) (ao (bY (wZ (kK (aX (dz hr.units) au (ay (aa (xv 4)) (ai) (λ_ _=>rfl)) (cK) (bW _)) (iS (aX (dG hr.units) au (aa (xv 3)) (ay (aa (xv 4)) (ai) (λ_ _=>rfl)) rfl)))) (az (aN (du))) (aL)) (bV [2,3,4] aL))))) (az (aN (du))))⟩
theorem qx{f:QL}(oC:mg "min"=none)(gf:mg "max"=none)(aM:mg "tuple"=none):cV P w K mg base 0 ["_law_one","_law_other"] "_law_in_both" fY f dE:=
 ⟨λcdv A outer s H E hr hp=>(ao (bY (aX (dz hr.units) au (ay (aa (xv 0)) (ai) (λ_ _=>rfl)) (cK) (bW _)) (az (aN (bP (ae (cK) (ae (aZ (ki rfl) rfl gf QB (ae (ay (aa (xv 0)) (ai) (λ_ _=>rfl)) (ae (ay (aa (xv 1)) (ai) (λ_ _=>rfl)) (aj)))) (ae (aZ (nX rfl) rfl oC QC (ae (ay (aa (xv 0)) (ai) (λ_ _=>rfl)) (ae (ay (aa (xv 1)) (ai) (λ_ _=>rfl)) (aj)))) (aj))))))) (aL)) (az (aN (bP (ae (cK) (ae (bK cj rfl aM Qz (ae (eA (N:=["_law_word","_law_other"]) (ix:=[none,some 1]) rfl (.of rfl) (bL rfl) (bU (ay (aa (xv 0)) (ai) (λ_ _=>rfl))) ⟨λ_ _ _ _ _ _=>⟨aI (i:=0) Js rfl (Or.inl rfl),eJ (aX (vI hr.units) au (aa (xv 0)) (ay (aa (xv 1)) (ai) (λ_ _=>rfl)) rfl),aa (xv 0)⟩⟩) (aj))) (aj)))))))⟩
theorem nB{f:QL}(iT:Callee P w K mg base 1 "_law_in_both" ["_law_one","_law_other"] (bv dE 2 2))(kX:mg "zip"=none)(aM:mg "tuple"=none):cV P w K mg base 1 ["_law_one","_law_other","_law_found","_law_field","_law_more"] "_law_key_of_both" dN f bR:=
 ⟨λcdv A outer s H E hr hp=>(ao (fK (i:=2) nz.nd rfl ‹1› (ko (aj))) (ao (cZ hp rfl (vL rfl kX (ae (ay (aa (xv 0)) (ai) (λ_ _=>rfl)) (ae (ay (aa (xv 1)) (ai) (λ_ _=>rfl)) (aj)))) (kH (g:=og [3,4]) rfl (cO (aI (i:=3) nz.nd rfl ‹1›) (cO (aI (i:=4) nz.nd rfl ‹1›) (i5)))) (ao (kM QG QH dI eS (xv 2) (ae (bP (ae (ay (aa (xv 3)) (ai) (λ_ _=>rfl)) (ae (ax iT aY hr ‹0› (ae (ay (aa (xv 3)) (ai) (λ_ _=>rfl)) (ae (ay (aa (xv 4)) (ai) (λ_ _=>rfl)) (aj)))) (aj)))) (aj))) (bV [3,4] aL))) (eM 2 (az (aN (bK cj rfl aM Qz (ae (aa (xv 2)) (aj))))))))⟩
theorem vn{f:QL}(cB:Callee P w K mg base 2 "_law_key_of_both" ["_law_one","_law_other"] (bv bR 2 5))(cE:Callee P w K mg base 14 "_law_values" ["_law_fields","_law_x"] (bv bQ 2 2))(nY:Callee P w K mg base 1 "_law_fit" ["_law_fields","_law_key"] (bv gL 2 5))(aC:Callee P w K mg base 1 "_law_next" ["_law_x"] (bv aJ 1 1))(bz:Callee P w K mg base 1 "_law_sorted" ["_law_many","_law_rows_here"] (bv bu 2 4))(bH:mg "len"=none):cV P w K mg base 14 ["_law_one","_law_other","_law_tables","_law_view","_law_x","_law_many","_law_key_fields","_law_keys","_law_key","_law_rows_here"] "_law_deed" jj f iq:=
 ⟨λcdv A outer s H E hr hp=>(ao (aD (i:=5) vo.nd rfl ‹1› (aZ bJ rfl bH PySem.boot_len (ae (ay (aa (xv 0)) (ai) (λ_ _=>rfl)) (aj)))) (ao (aD (i:=6) vo.nd rfl ‹1› (ax cB aY hr ‹0› (ae (aa (xv 0)) (ae (aa (xv 1)) (aj))))) (ao (by first|exact rQ (i:=7) vo.nd rfl ‹1› (N:=["_law_row_here","_law_many"]) (ix:=[none,some 5]) rfl (.of rfl) (bL rfl) (bU (aq aW au (aq aW au (ay (aa (xv 2)) (ai) (λ_ _=>rfl)) (ay (aa (xv 2)) (ai) (λ_ _=>rfl))) (aa (xv 3)))) ⟨λ_ _ _ _ _ _=>⟨aI (i:=0) Fz rfl (Or.inl rfl),dg,bh (aa (xv 0)) (bA) (bB (aa (xv 1)))⟩⟩|exact aD (i:=7) vo.nd rfl ‹1› (eA (N:=["_law_row_here","_law_many"]) (ix:=[none,some 5]) rfl (.of rfl) (bL rfl) (bU (aq aW au (aq aW au (ay (aa (xv 2)) (ai) (λ_ _=>rfl)) (ay (aa (xv 2)) (ai) (λ_ _=>rfl))) (aa (xv 3)))) ⟨λ_ _ _ _ _ _=>⟨aI (i:=0) Fz rfl (Or.inl rfl),dg,bh (aa (xv 0)) (bA) (bB (aa (xv 1)))⟩⟩)) (ao (aD (i:=8) vo.nd rfl ‹1› (ax cE aY hr ‹0› (ae (aa (xv 6)) (ae (ay (dA (ae (aa (xv 4)) (ae (aq bo bn (aa (xv 4)) (ai)) (aj)))) (aq bo bn (aq bf bT (aa (xv 4)) (ai)) (ai)) (λ_ _=>rfl)) (aj))))) (ao (bY (wZ (kK (aX zz ml (aq bo bn (aa (xv 4)) (ai)) (ai) (bW _)) (iS (aX (rp hr.units) au (aa (xv 7)) (dA (aj)) (bW _))))) (az (aD (i:=8) vo.nd rfl ‹1› (ay (aa (xv 7)) (aq bo bn (aq bf bT (aa (xv 4)) (ai)) (aZ bJ rfl bH PySem.boot_len (ae (aa (xv 7)) (aj)))) (λ_ _=>rfl)))) (aL)) (ao (by first|exact zX (i:=9) vo.nd rfl ‹1› (N:=["_law_row_here","_law_many","_law_key"]) (ix:=[none,some 5,some 8]) rfl (.of rfl) (bL rfl) (bU (aa (xv 3))) ⟨λ_ _ _ _ _ _=>⟨aI (i:=0) Fc rfl (Or.inl rfl),eJ (aX (rp hr.units) au (bh (aa (xv 0)) (bA) (bB (aa (xv 1)))) (aa (xv 2)) (bW _)),aa (xv 0)⟩⟩|exact fK (i:=9) vo.nd rfl ‹1› (G4 (N:=["_law_row_here","_law_many","_law_key"]) (ix:=[none,some 5,some 8]) rfl (.of rfl) (bL rfl) (bU (aa (xv 3))) ⟨λ_ _ _ _ _ _=>⟨aI (i:=0) Fc rfl (Or.inl rfl),eJ (aX (rp hr.units) au (bh (aa (xv 0)) (bA) (bB (aa (xv 1)))) (aa (xv 2)) (bW _)),aa (xv 0)⟩⟩)) (ao (bY (wZ (kK (aX zz ml (aq bo bn (aq bf bT (aa (xv 4)) (ai)) (ai)) (ai) (bW _)) (iS (df (ax nY aY hr ‹0› (ae (aa (xv 6)) (ae (aa (xv 8)) (aj)))))))) (az (kM QG QH dI eS (xv 9) (ae (aq aW au (aa (xv 8)) (ax cE aY hr ‹0› (ae (aq aW au (ay (aa (xv 0)) (ai) (λ_ _=>rfl)) (ay (aa (xv 1)) (ai) (λ_ _=>rfl))) (ae (ax aC aY hr ‹0› (ae (aa (xv 4)) (aj))) (aj))))) (aj)))) (aL)) (eM 9 (az (aN (ax bz aY hr ‹0› (ae (aa (xv 5)) (ae (aa (xv 9)) (aj))))))))))))))⟩
theorem qw{f:QL}(bH:mg "len"=none):cV P w K mg base 0 ["_law_script","_law_k"] "_law_cell_at" fQ f dF:=
 ⟨λcdv A outer s H E hr hp=>(ao (bY (aX (nQ hr.units) au (aa (xv 1)) (aZ bJ rfl bH PySem.boot_len (ae (aa (xv 0)) (aj))) (bW _)) (az (aN (ay (aa (xv 0)) (aa (xv 1)) (λ_ _=>rfl)))) (aL)) (az (aN (ai))))⟩
theorem vj{f:QL}(dJ:Callee P w K mg base 1 "_law_cell_at" ["_law_script","_law_k"] (bv dF 2 2))(aC:Callee P w K mg base 1 "_law_next" ["_law_x"] (bv aJ 1 1)):cV P w K mg base 1 ["_law_script","_law_k","_law_x"] "_law_seed" jm f cU:=
 ⟨λcdv A outer s H E hr hp=>(ao (aD (i:=2) uY.nd rfl ‹1› (aq bo bn (aq aW au (aq aW au (aq bo bn (ax dJ aY hr ‹0› (ae (aa (xv 0)) (ae (aa (xv 1)) (aj)))) (ai)) (aq j8 kF (aq j8 kF (ai) (aa (xv 1))) (aa (xv 1)))) (ai)) (ai))) (az (aN (ax aC aY hr ‹0› (ae (ax aC aY hr ‹0› (ae (aa (xv 2)) (aj))) (aj))))))⟩
theorem lm{f:QL}(cB:Callee P w K mg base 2 "_law_key_of_both" ["_law_one","_law_other"] (bv bR 2 5))(dh:Callee P w K mg base 2 "_law_seed" ["_law_script","_law_k"] (bv cU 2 3))(aC:Callee P w K mg base 1 "_law_next" ["_law_x"] (bv aJ 1 1))(cE:Callee P w K mg base 14 "_law_values" ["_law_fields","_law_x"] (bv bQ 2 2))(bz:Callee P w K mg base 1 "_law_sorted" ["_law_many","_law_rows_here"] (bv bu 2 4))(bD:mg "range"=none)(oC:mg "min"=none)(gf:mg "max"=none)(bH:mg "len"=none):cV P w K mg base 14 ["_law_one","_law_other","_law_script","_law_start","_law_most","_law_both_key","_law_rows_here","_law_k","_law_x","_law_way","_law_y","_law_key"] "_law_joined_tables" dj f cJ:=
 ⟨λcdv A outer s H E hr hp=>(ao (aD (i:=5) lj.nd rfl ‹1› (ax cB aY hr ‹0› (ae (aa (xv 0)) (ae (aa (xv 1)) (aj))))) (ao (Av (i:=6) lj.nd rfl ‹1›) (ao (cZ hp rfl (rX rfl bD (ae (aa (xv 3)) (ae (aZ (nX rfl) rfl oC QC (ae (aZ (ki rfl) rfl gf QB (ae (aZ bJ rfl bH PySem.boot_len (ae (aa (xv 2)) (aj))) (ae (aq aW au (aa (xv 3)) (ai)) (aj)))) (ae (aq aW au (aa (xv 3)) (aa (xv 4))) (aj)))) (aj)))) (aI (i:=7) lj.nd rfl ‹1›) (ao (aD (i:=8) lj.nd rfl ‹1› (ax dh aY hr ‹0› (ae (aa (xv 2)) (ae (aa (xv 7)) (aj))))) (ao (aD (i:=9) lj.nd rfl ‹1› (aq bo bn (aa (xv 8)) (ai))) (ao (aD (i:=10) lj.nd rfl ‹1› (ax aC aY hr ‹0› (ae (aa (xv 8)) (aj)))) (ao (aD (i:=11) lj.nd rfl ‹1› (ax cE aY hr ‹0› (ae (ay (dA (ae (ay (aa (xv 0)) (ai) (λ_ _=>rfl)) (ae (ay (aa (xv 1)) (ai) (λ_ _=>rfl)) (ae (aa (xv 5)) (ae (aa (xv 5)) (ae (aa (xv 5)) (aj))))))) (aa (xv 9)) (λ_ _=>rfl)) (ae (ay (dA (ae (aa (xv 10)) (ae (aq bo bn (aa (xv 10)) (ai)) (aj)))) (aq bo bn (aq bf bT (aa (xv 8)) (ai)) (ai)) (λ_ _=>rfl)) (aj))))) (ao (bY (aX (vI hr.units) au (aa (xv 9)) (bP (ae (ai) (ae (ai) (ae (ai) (aj))))) rfl) (az (v7 (c:=0) (xv 6) (aq aW au (aa (xv 11)) (ax cE aY hr ‹0› (ae (ay (aa (xv 0)) (ai) (λ_ _=>rfl)) (ae (aq aW au (aa (xv 10)) (ai)) (aj))))))) (aL)) (ao (bY (aX (vI hr.units) au (aa (xv 9)) (bP (ae (ai) (ae (ai) (ae (ai) (aj))))) rfl) (az (v7 (c:=1) (xv 6) (aq aW au (aa (xv 11)) (ax cE aY hr ‹0› (ae (ay (aa (xv 1)) (ai) (λ_ _=>rfl)) (ae (aq aW au (aa (xv 10)) (ai)) (aj))))))) (aL)) (bV [7,8,9,10,11] aL)))))))) (Aa 6 (az (aN (bP (ae (ax bz aY hr ‹0› (ae (aZ bJ rfl bH PySem.boot_len (ae (ay (aa (xv 0)) (ai) (λ_ _=>rfl)) (aj))) (ae (ay (aa (xv 6)) (ai) (λ_ _=>rfl)) (aj)))) (ae (ax bz aY hr ‹0› (ae (aZ bJ rfl bH PySem.boot_len (ae (ay (aa (xv 0)) (ai) (λ_ _=>rfl)) (aj))) (ae (ay (aa (xv 6)) (ai) (λ_ _=>rfl)) (aj)))) (aj))))))))))⟩
theorem vc{f:QL}(bD:mg "range"=none):cV P w K mg base 0 ["_law_base","_law_k","_law_letters","_law_size","_law_name_here","_law_j","_law_step"] "_law_name" jk f ca:=
 ⟨λcdv A outer s H E hr hp=>(ao (aD (i:=2) vx.nd rfl ‹1› (cK)) (ao (aD (i:=1) vx.nd rfl ‹1› (aq bo bn (aq aW au (aq j8 kF (aa (xv 1)) (ay (dA (ae (ai) (ae (ai) (ae (ai) (ae (ai) (ae (ai) (ae (ai) (aj)))))))) (aq bo bn (aa (xv 0)) (ai)) (λ_ _=>rfl))) (aq bf bT (aa (xv 0)) (ai))) (ai))) (ao (aD (i:=0) vx.nd rfl ‹1› (aq bf bT (aa (xv 0)) (ai))) (ao (bY (aX (dz hr.units) au (aq bo bn (aa (xv 0)) (ai)) (ai) (bW _)) (az (aN (aq oj au (ay (aa (xv 2)) (aq bo bn (aq aW au (aq bf bT (aa (xv 0)) (ai)) (aq bf bT (aa (xv 1)) (ai))) (ai)) (λ_ _=>rfl)) (aq aW au (ai) (aq bo bn (aa (xv 1)) (ai)))))) (aL)) (ao (aD (i:=3) vx.nd rfl ‹1› (aq aW au (ai) (aq bo bn (aq bf bT (aa (xv 0)) (ai)) (ai)))) (ao (aD (i:=4) vx.nd rfl ‹1› (cK)) (ao (cZ hp rfl (gR rfl bD (ae (aa (xv 3)) (aj))) (aI (i:=5) vx.nd rfl ‹1›) (ao (aD (i:=6) vx.nd rfl ‹1› (aq bf bT (aa (xv 0)) (aq aW au (ai) (aq j8 kF (aq j8 kF (ai) (aa (xv 5))) (aa (xv 5)))))) (ao (bY (aX (dz hr.units) au (aa (xv 5)) (aq bo bn (aq bf bT (aa (xv 0)) (ai)) (aa (xv 3))) (bW _)) (az (aD (i:=6) vx.nd rfl ‹1› (aq aW au (aa (xv 6)) (aa (xv 1))))) (aL)) (ao (aD (i:=4) vx.nd rfl ‹1› (aq aW au (aa (xv 4)) (ay (aa (xv 2)) (aq bo bn (aa (xv 6)) (ai)) (λ_ _=>rfl)))) (bV [5,6] aL))))) (az (aN (aa (xv 4)))))))))))⟩
theorem sQ{f:QL}(bD:mg "range"=none)(bH:mg "len"=none)(aM:mg "tuple"=none)(dS:mg "sorted"=none)(iz:mg "list"=none):cV P w K mg base 0 ["_law_x","_law_low","_law_letters","_law_one","_law_other","_law_some","_law_kept","_law_k"] "_law_plain" iE f cR:=
 ⟨λcdv A outer s H E hr hp=>(ao (bY (aX (nQ hr.units) au (aq bo bn (aa (xv 0)) (ai)) (ai) (bW _)) (ao (aD (i:=1) sO.nd rfl ‹1› (ay (dA (ae (ai) (ae (zD (ai)) (ae (aq pP p8 (ai) (aq bo bn (aq gO gx (aa (xv 0)) (ai)) (aq gO gx (ai) (ai)))) (ae (aq bo bn (aq gO gx (aa (xv 0)) (ai)) (aq gO gx (ai) (ai))) (aj)))))) (aq bo bn (aq bf bT (aa (xv 0)) (ai)) (ai)) (λ_ _=>rfl))) (az (aN (bP (ae (cK) (ae (aa (xv 1)) (ae (aq aW au (aa (xv 1)) (ay (dA (ae (ai) (ae (ai) (ae (ai) (ae (aq gO gx (ai) (ai)) (aj)))))) (aq bo bn (aq bf bT (aa (xv 0)) (ai)) (ai)) (λ_ _=>rfl))) (aj)))))))) (aL)) (ao (aD (i:=2) sO.nd rfl ‹1› (cK)) (ao (aD (i:=3) sO.nd rfl ‹1› (ay (aa (xv 2)) (aq bo bn (aq bf bT (aa (xv 0)) (ai)) (ai)) (λ_ _=>rfl))) (ao (aD (i:=4) sO.nd rfl ‹1› (ay (aa (xv 2)) (aq bo bn (aq bf bT (aa (xv 0)) (ai)) (ai)) (λ_ _=>rfl))) (ao (aD (i:=5) sO.nd rfl ‹1› (dA (ae (cK) (ae (aa (xv 3)) (ae (aa (xv 4)) (ae (aq aW au (aa (xv 3)) (aa (xv 4))) (ae (aq aW au (aa (xv 4)) (aa (xv 3))) (ae (aq oj au (aa (xv 3)) (ai)) (ae (aq aW au (aa (xv 3)) (aa (xv 3))) (ae (aq oj au (aa (xv 4)) (ai)) (aj))))))))))) (ao (fK (i:=6) sO.nd rfl ‹1› (o9)) (bV [1,2,4] (ao (cZ hp rfl (gR rfl bD (ae (ai) (aj))) (aI (i:=7) sO.nd rfl ‹1›) (ao (bY (aX (dz hr.units) au (aq xY x9 (aq yJ yt (aq bf bT (aa (xv 0)) (ai)) (aa (xv 7))) (ai)) (ai) (bW _)) (az (rY (hr.units) (xv 6) (ay (aa (xv 5)) (aa (xv 7)) (λ_ _=>rfl)) (du))) (aL)) (bV [7] aL))) (ao (bY (wM [6] (aX (dz hr.units) au (aZ Ab rfl bH PySem.boot_len (ae (aa (xv 6)) (aj))) (ai) (bW _))) (az (rY (hr.units) (xv 6) (aa (xv 3)) (du))) (aL)) (eM 6 (az (aN (bP (ae (cK) (ae (bK cj rfl aM Qz (ae (aZ kn rfl dS iJ (ae (bK (rZ rfl) rfl iz QA (ae (aa (xv 6)) (aj))) (aj))) (aj))) (aj))))))))))))))))⟩
theorem vd{n:Nat}{f:QL}(cS:Callee P w K mg base 1 "_law_plain" ["_law_x"] (bv cR 1 8))(aC:Callee P w K mg base 1 "_law_next" ["_law_x"] (bv aJ 1 1))(cu:Callee P w K mg base 1 "_law_name" ["_law_base","_law_k"] (bv ca 2 7))(bD:mg "range"=none)(aM:mg "tuple"=none){bi:List D->R D}(ly:Callee P w K mg base (1+n) "_law_kind" ["_law_x","_law_base","_law_deep"] bi)(L__law_kind:Ar 3 bi){aU:List D->R D}(eI:Callee P w K mg base (1+n) "_law_form" ["_law_x","_law_base","_law_start","_law_many","_law_more","_law_deep"] aU)(L__law_form:Ar 6 aU):cV P w K mg base (1+n) ["_law_x","_law_base","_law_deep","_law_inner"] "_law_kind" ir f (ig bi aU):=
 ⟨λcdv A outer s H E hr hp=>(ao (bY (wZ (js (aX (dz hr.units) au (aa (xv 2)) (ai) (bW _)) (hZ (aX (nQ hr.units) au (aq bo bn (aa (xv 0)) (ai)) (ai) (bW _))))) (az (aN (ax cS aY hr ‹0› (ae (aq bf bT (aa (xv 0)) (ai)) (aj))))) (aL)) (ao (aD (i:=3) u9.nd rfl ‹1› (ax eI L__law_form hr ‹0› (ae (aq bf bT (aa (xv 0)) (ai)) (ae (aa (xv 1)) (ae (aq bo bn (aq bf bT (aa (xv 0)) (ai)) (ai)) (ae (aq aW au (ai) (aq bo bn (aq bf bT (aa (xv 0)) (ai)) (ai))) (ae (aq bo bn (aq bf bT (aa (xv 0)) (ai)) (ai)) (ae (aq pP p8 (aa (xv 2)) (ai)) (aj))))))))) (az (aN (bP (ae (cK) (ae (aa (xv 3)) (ae (qI (dz hr.units) au (aq bo bn (aq bf bT (aa (xv 0)) (ai)) (ai)) (ai) (bW _)) (aj)))))))))⟩
theorem vf{n:Nat}{f:QL}(cS:Callee P w K mg base 1 "_law_plain" ["_law_x"] (bv cR 1 8))(aC:Callee P w K mg base 1 "_law_next" ["_law_x"] (bv aJ 1 1))(cu:Callee P w K mg base 1 "_law_name" ["_law_base","_law_k"] (bv ca 2 7))(bD:mg "range"=none)(aM:mg "tuple"=none){bi:List D->R D}(ly:Callee P w K mg base (1+n) "_law_kind" ["_law_x","_law_base","_law_deep"] bi)(L__law_kind:Ar 3 bi){aU:List D->R D}(eI:Callee P w K mg base (1+n) "_law_form" ["_law_x","_law_base","_law_start","_law_many","_law_more","_law_deep"] aU)(L__law_form:Ar 6 aU):cV P w K mg base (1+n) ["_law_x","_law_base","_law_start","_law_many","_law_more","_law_deep","_law_key","_law_rest","_law_k"] "_law_form" ie f (jd bi aU):=
 ⟨λcdv A outer s H E hr hp=>(ao (fK (i:=6) u6.nd rfl ‹1› (ko (aj))) (ao (fK (i:=7) u6.nd rfl ‹1› (ko (aj))) (ao (cZ hp rfl (gR rfl bD (ae (aq aW au (aa (xv 3)) (aa (xv 4))) (aj))) (aI (i:=8) u6.nd rfl ‹1›) (ao (aD (i:=0) u6.nd rfl ‹1› (ax aC aY hr ‹0› (ae (aa (xv 0)) (aj)))) (ao (bY (aX (nQ hr.units) au (aa (xv 8)) (aa (xv 3)) (bW _)) (az (kM QG QH dI eS (xv 6) (ae (bP (ae (ax cu aY hr ‹0› (ae (aa (xv 1)) (ae (aq aW au (aa (xv 2)) (aa (xv 8))) (aj)))) (ae (ax cS aY hr ‹0› (ae (aa (xv 0)) (aj))) (aj)))) (aj)))) (az (kM QG QH dI eS (xv 7) (ae (bP (ae (ax cu aY hr ‹0› (ae (aa (xv 1)) (ae (aq aW au (aa (xv 2)) (aa (xv 8))) (aj)))) (ae (ax ly L__law_kind hr ‹0› (ae (aa (xv 0)) (ae (aa (xv 1)) (ae (aa (xv 5)) (aj))))) (aj)))) (aj))))) (bV [8] aL)))) (eM 7 (eM 6 (az (aN (bP (ae (bK cj rfl aM Qz (ae (aa (xv 6)) (aj))) (ae (bK cj rfl aM Qz (ae (aa (xv 7)) (aj))) (aj)))))))))))⟩
theorem nG{f__law_kind:QL}{fd__law_kind:Rm}(F__law_kind:xQ K "_law_kind" "_law_kind" ir f__law_kind fd__law_kind)(lF:Binds K fd__law_kind ["_law_x","_law_base","_law_deep"] [])(m__law_kind:mg "_law_kind"=some (.ref f__law_kind)){f__law_form:QL}{fd__law_form:Rm}(F__law_form:xQ K "_law_form" "_law_form" ie f__law_form fd__law_form)(lM:Binds K fd__law_form ["_law_x","_law_base","_law_start","_law_many","_law_more","_law_deep"] [])(m__law_form:mg "_law_form"=some (.ref f__law_form))(cS:Callee P w K mg base 1 "_law_plain" ["_law_x"] (bv cR 1 8))(aC:Callee P w K mg base 1 "_law_next" ["_law_x"] (bv aJ 1 1))(cu:Callee P w K mg base 1 "_law_name" ["_law_base","_law_k"] (bv ca 2 7))(bD:mg "range"=none)(aM:mg "tuple"=none):∀n:Nat,Callee P w K mg base (1+n) "_law_kind" ["_law_x","_law_base","_law_deep"] (bi n)/\Callee P w K mg base (1+n) "_law_form" ["_law_x","_law_base","_law_start","_law_many","_law_more","_law_deep"] (aU n)
 |0=>by
  rw[bi];rw[aU];exact⟨fG 1 F__law_kind lF m__law_kind,fG 1 F__law_form lM m__law_form⟩
 |n+1=>by
  have ih:=nG F__law_kind lF m__law_kind F__law_form lM m__law_form cS aC cu bD aM n;rw[eU];rw[gS];exact⟨bC F__law_kind lF m__law_kind u9 (cV.ok (vd cS aC cu bD aM ih.1 (lQ n) ih.2 (fH n))),bC F__law_form lM m__law_form u6 (cV.ok (vf cS aC cu bD aM ih.1 (lQ n) ih.2 (fH n)))⟩
theorem nS{f:QL}(dS:mg "sorted"=none)(iz:mg "list"=none):cV P w K mg base 0 ["_law_x","_law_letters","_law_one","_law_other","_law_kept","_law_word"] "_law_some_words" eE f dr:=
 ⟨λcdv A outer s H E hr hp=>(ao (aD (i:=1) nV.nd rfl ‹1› (cK)) (ao (aD (i:=2) nV.nd rfl ‹1› (ay (aa (xv 1)) (aq bo bn (aa (xv 0)) (ai)) (λ_ _=>rfl))) (ao (aD (i:=3) nV.nd rfl ‹1› (ay (aa (xv 1)) (aq bo bn (aq bf bT (aa (xv 0)) (ai)) (ai)) (λ_ _=>rfl))) (ao (fK (i:=4) nV.nd rfl ‹1› (o9)) (bV [0,1] (ao (cZ hp rfl (bU (dA (ae (cK) (ae (aa (xv 2)) (ae (aa (xv 3)) (ae (aq aW au (aa (xv 2)) (aa (xv 3))) (ae (aq aW au (aa (xv 3)) (aa (xv 2))) (ae (aq oj au (aa (xv 2)) (ai)) (ae (aq aW au (aa (xv 2)) (aa (xv 2))) (ae (aq oj au (aa (xv 3)) (ai)) (aj))))))))))) (aI (i:=5) nV.nd rfl ‹1›) (ao (rY (hr.units) (xv 4) (aa (xv 5)) (du)) (bV [5] aL))) (eM 4 (az (aN (aZ kn rfl dS iJ (ae (bK (rZ rfl) rfl iz QA (ae (aa (xv 4)) (aj))) (aj))))))))))))⟩
theorem ot{f:QL}(aC:Callee P w K mg base 1 "_law_next" ["_law_x"] (bv aJ 1 1))(fV:Callee P w K mg base 1 "_law_some_words" ["_law_x"] (bv dr 1 6))(bH:mg "len"=none)(aM:mg "tuple"=none)(jp:mg "enumerate"=none):cV P w K mg base 1 ["_law_x","_law_y","_law_low","_law_wide","_law_far","_law_one","_law_other","_law_some","_law_spare"] "_law_two_kinds" eW f dD:=
 ⟨λcdv A outer s H E hr hp=>(ao (aD (i:=1) oh.nd rfl ‹1› (ax aC aY hr ‹0› (ae (aa (xv 0)) (aj)))) (ao (aD (i:=2) oh.nd rfl ‹1› (ay (dA (ae (ai) (ae (zD (ai)) (ae (aq pP p8 (ai) (aq bo bn (aq gO gx (aa (xv 1)) (ai)) (aq gO gx (ai) (ai)))) (ae (aq bo bn (aq gO gx (aa (xv 1)) (ai)) (aq gO gx (ai) (ai))) (aj)))))) (aq bo bn (aq bf bT (aa (xv 0)) (ai)) (ai)) (λ_ _=>rfl))) (ao (aD (i:=3) oh.nd rfl ‹1› (ay (dA (ae (ai) (ae (ai) (ae (ai) (ae (aq gO gx (ai) (ai)) (aj)))))) (aq bo bn (aq bf bT (aa (xv 0)) (ai)) (ai)) (λ_ _=>rfl))) (ao (aD (i:=4) oh.nd rfl ‹1› (aq bo bn (aq gO gx (aa (xv 1)) (ai)) (aq aW au (aa (xv 3)) (ai)))) (ao (aD (i:=5) oh.nd rfl ‹1› (bP (ae (cK) (ae (aa (xv 2)) (ae (aq aW au (aa (xv 2)) (aa (xv 3))) (aj)))))) (ao (aD (i:=6) oh.nd rfl ‹1› (bP (ae (cK) (ae (aq aW au (aa (xv 2)) (aa (xv 4))) (ae (aq aW au (aq aW au (aa (xv 2)) (aa (xv 4))) (ay (dA (ae (ai) (ae (ai) (ae (ai) (ae (aq gO gx (ai) (ai)) (aj)))))) (aq bo bn (aq bf bT (aa (xv 0)) (ai)) (ai)) (λ_ _=>rfl))) (aj)))))) (ao (bY (aX (dz hr.units) au (aq bo bn (aa (xv 0)) (ai)) (ai) (bW _)) (ao (aD (i:=7) oh.nd rfl ‹1› (ax fV aY hr ‹0› (ae (aq bf bT (aa (xv 0)) (ai)) (aj)))) (ao (aD (i:=8) oh.nd rfl ‹1› (ay (aa (xv 7)) (aq bo bn (aa (xv 1)) (aZ bJ rfl bH PySem.boot_len (ae (aa (xv 7)) (aj)))) (λ_ _=>rfl))) (ao (aD (i:=5) oh.nd rfl ‹1› (bP (ae (cK) (ae (bK cj rfl aM Qz (ae (eA (N:=["_law_k","_law_word","_law_spare","_law_y"]) (ix:=[none,none,some 8,some 1]) rfl (.of rfl) (rK rfl) (nD rfl jp (ae (aa (xv 7)) (aj))) ⟨λ_ _ _ _ _ _=>⟨kH (g:=og [0,1]) rfl (cO (aI (i:=0) Fi rfl (Or.inl rfl)) (cO (aI (i:=1) Fi rfl (Or.inl rfl)) (i5))),eJ (wZ (js (aX (dz hr.units) au (aa (xv 1)) (aa (xv 2)) (bW _)) (hZ (aX (dz hr.units) au (aq xY x9 (aq yJ yt (aq bf bT (aa (xv 3)) (ai)) (aa (xv 0))) (ai)) (ai) (bW _))))),aa (xv 1)⟩⟩) (aj))) (aj))))) (az (aD (i:=6) oh.nd rfl ‹1› (bP (ae (cK) (ae (bK cj rfl aM Qz (ae (eA (N:=["_law_k","_law_word","_law_spare","_law_y"]) (ix:=[none,none,some 8,some 1]) rfl (.of rfl) (rK rfl) (nD rfl jp (ae (aa (xv 7)) (aj))) ⟨λ_ _ _ _ _ _=>⟨kH (g:=og [0,1]) rfl (cO (aI (i:=0) Fl rfl (Or.inl rfl)) (cO (aI (i:=1) Fl rfl (Or.inl rfl)) (i5))),eJ (wZ (js (aX (dz hr.units) au (aa (xv 1)) (aa (xv 2)) (bW _)) (hZ (aX (dz hr.units) au (aq xY x9 (aq yJ yt (aq bf bT (aa (xv 3)) (ai)) (aa (xv 0))) (ai)) (ai) (bW _))))),aa (xv 1)⟩⟩) (aj))) (aj))))))))) (aL)) (ao (bY (aX (dz hr.units) au (aq bo bn (aq bf bT (aa (xv 0)) (ai)) (ai)) (ai) (bW _)) (az (aN (bP (ae (aa (xv 6)) (ae (aa (xv 5)) (aj)))))) (aL)) (az (aN (bP (ae (aa (xv 5)) (ae (aa (xv 6)) (aj))))))))))))))⟩
theorem ph{f:QL}(aC:Callee P w K mg base 1 "_law_next" ["_law_x"] (bv aJ 1 1))(gB:Callee P w K mg base 2 "_law_two_kinds" ["_law_x"] (bv dD 1 9))(cu:Callee P w K mg base 1 "_law_name" ["_law_base","_law_k"] (bv ca 2 7))(bD:mg "range"=none)(aM:mg "tuple"=none):cV P w K mg base 2 ["_law_x","_law_base","_law_many","_law_one","_law_other","_law_k","_law_kinds"] "_law_two_keys" fe f dX:=
 ⟨λcdv A outer s H E hr hp=>(ao (fK (i:=3) p9.nd rfl ‹1› (ko (aj))) (ao (fK (i:=4) p9.nd rfl ‹1› (ko (aj))) (ao (cZ hp rfl (gR rfl bD (ae (aa (xv 2)) (aj))) (aI (i:=5) p9.nd rfl ‹1›) (ao (aD (i:=0) p9.nd rfl ‹1› (ax aC aY hr ‹0› (ae (aa (xv 0)) (aj)))) (ao (aD (i:=6) p9.nd rfl ‹1› (ax gB aY hr ‹0› (ae (aa (xv 0)) (aj)))) (ao (kM QG QH dI eS (xv 3) (ae (bP (ae (ax cu aY hr ‹0› (ae (aa (xv 1)) (ae (aa (xv 5)) (aj)))) (ae (ay (aa (xv 6)) (ai) (λ_ _=>rfl)) (aj)))) (aj))) (ao (kM QG QH dI eS (xv 4) (ae (bP (ae (ax cu aY hr ‹0› (ae (aa (xv 1)) (ae (aa (xv 5)) (aj)))) (ae (ay (aa (xv 6)) (ai) (λ_ _=>rfl)) (aj)))) (aj))) (bV [5,6] aL)))))) (eM 4 (eM 3 (az (aN (bP (ae (bK cj rfl aM Qz (ae (aa (xv 3)) (aj))) (ae (bK cj rfl aM Qz (ae (aa (xv 4)) (aj))) (aj)))))))))))⟩
theorem lP{f:QL}(dh:Callee P w K mg base 2 "_law_seed" ["_law_script","_law_k"] (bv cU 2 3))(dJ:Callee P w K mg base 1 "_law_cell_at" ["_law_script","_law_k"] (bv dF 2 2))(iC:Callee P w K mg base 3 "_law_two_keys" ["_law_x","_law_base","_law_many"] (bv dX 3 7))(aC:Callee P w K mg base 1 "_law_next" ["_law_x"] (bv aJ 1 1))(eI:Callee P w K mg base 13 "_law_form" ["_law_x","_law_base","_law_start","_law_many","_law_more","_law_deep"] (aU 12)):cV P w K mg base 13 ["_law_script","_law_x","_law_base","_law_keys","_law_deep","_law_more","_law_first","_law_last"] "_law_joined_forms" dB f cP:=
 ⟨λcdv A outer s H E hr hp=>(ao (aD (i:=1) lT.nd rfl ‹1› (ax dh aY hr ‹0› (ae (aa (xv 0)) (ae (ai) (aj))))) (ao (aD (i:=2) lT.nd rfl ‹1› (aq bo bn (aq j8 kF (ax dJ aY hr ‹0› (ae (aa (xv 0)) (ae (ai) (aj)))) (ai)) (ai))) (ao (aD (i:=3) lT.nd rfl ‹1› (ax iC aY hr ‹0› (ae (ax aC aY hr ‹0› (ae (aa (xv 1)) (aj))) (ae (aa (xv 2)) (ae (ay (dA (ae (ai) (ae (ai) (ae (ai) (ae (ai) (ae (ai) (ae (ai) (ae (ai) (ae (aq aW au (ai) (aq bo bn (aq bf bT (aa (xv 1)) (ai)) (ai))) (aj)))))))))) (aq bo bn (aa (xv 1)) (ai)) (λ_ _=>rfl)) (aj)))))) (ao (aD (i:=4) lT.nd rfl ‹1› (ay (dA (ae (ai) (ae (ai) (ae (ai) (ae (ai) (aj)))))) (aq bo bn (aq bf bT (aa (xv 1)) (ai)) (ai)) (λ_ _=>rfl))) (ao (aD (i:=5) lT.nd rfl ‹1› (dA (ae (aq bo bn (aq bf bT (aa (xv 1)) (ai)) (ai)) (ae (aq bo bn (aq bf bT (aa (xv 1)) (ai)) (ai)) (aj))))) (ao (bY (aX (dz hr.units) au (aq bo bn (aq bf bT (aa (xv 1)) (ai)) (ai)) (ai) (bW _)) (ao (aD (i:=5) lT.nd rfl ‹1› (dA (ae (aq bo bn (aq bf bT (aa (xv 1)) (ai)) (ai)) (ae (aq pP p8 (ai) (aq bo bn (aq bf bT (aa (xv 1)) (ai)) (ai))) (aj))))) (az (aD (i:=4) lT.nd rfl ‹1› (ai)))) (aL)) (ao (aD (i:=6) lT.nd rfl ‹1› (ay (ax eI (fH 12) hr ‹0› (ae (aq aW au (ax aC aY hr ‹0› (ae (aa (xv 1)) (aj))) (ai)) (ae (aa (xv 2)) (ae (ai) (ae (ai) (ae (ay (aa (xv 5)) (ai) (λ_ _=>rfl)) (ae (aa (xv 4)) (aj)))))))) (ai) (λ_ _=>rfl))) (ao (aD (i:=7) lT.nd rfl ‹1› (ay (ax eI (fH 12) hr ‹0› (ae (aq aW au (ax aC aY hr ‹0› (ae (aa (xv 1)) (aj))) (ai)) (ae (aa (xv 2)) (ae (ai) (ae (ai) (ae (ay (aa (xv 5)) (ai) (λ_ _=>rfl)) (ae (aa (xv 4)) (aj)))))))) (ai) (λ_ _=>rfl))) (az (aN (bP (ae (bP (ae (ay (aa (xv 3)) (ai) (λ_ _=>rfl)) (ae (aa (xv 6)) (aj)))) (ae (bP (ae (ay (aa (xv 3)) (ai) (λ_ _=>rfl)) (ae (aa (xv 7)) (aj)))) (aj))))))))))))))⟩
theorem HF{f:QL}{fd:Rm}(F:xQ K "law" "law" rH f fd)(eZ:Callee P w K mg base 14 "_law_joined_forms" ["_law_script"] (bv cP 1 8))(eG:Callee P w K mg base 15 "_law_joined_tables" ["_law_one","_law_other","_law_script","_law_start","_law_most"] (bv cJ 5 12))(lu:Callee P w K mg base 15 "_law_deed" ["_law_one","_law_other","_law_tables","_law_view","_law_x"] (bv iq 5 10))(dh:Callee P w K mg base 2 "_law_seed" ["_law_script","_law_k"] (bv cU 2 3))(gZ:Callee P w K mg base 1 "_law_rising" ["_law_table","_law_many"] (bv d7 2 3))(fU:Callee P w K mg base 12 "_law_alike" ["_law_found","_law_due"] (bx 12))(kP:Callee P w K mg base 1 "_law_stays" ["_law_one","_law_tables","_law_put","_law_view"] (bv fJ 4 10))(jP:nI P w K mg base 15 "got" ["self","forms","tables"] [("Pair",(bv gF 3 3)),("Join",(bv eP 3 5))])(qa:nI P w K mg base 15 "put" ["self","forms","tables","view"] [("Pair",(bv iR 4 4)),("Join",(bv fu 4 10))])(N_Join:zp K mg "Join")(bH:mg "len"=none)(bD:mg "range"=none)(oC:mg "min"=none)(gf:mg "max"=none)(bF:mg "isinstance"=none)(aM:mg "tuple"=none):nA P w K mg base (nZ P w) 16 f fd ["_law_script"] (Bs K 1 (bv qR 1 9)):=
 vC (k:=15) F GR (cV.ok ⟨λcdv A outer s H E hr hp=>(ao (DQ (ax eZ aY hr ‹0› (ae (aa (xv 0)) (aj))) (kH (g:=og [1,2]) rfl (cO (aI (i:=1) GR.nd rfl ‹1›) (cO (aI (i:=2) GR.nd rfl ‹1›) (i5))))) (ao (aD (i:=3) GR.nd rfl ‹1› (aZ bJ rfl bH PySem.boot_len (ae (ay (aa (xv 1)) (ai) (λ_ _=>rfl)) (aj)))) (ao (aD (i:=4) GR.nd rfl ‹1› (ax eG aY hr ‹0› (ae (aa (xv 1)) (ae (aa (xv 2)) (ae (bh (aa (xv 0)) (bA) (bB (ai))) (ae (ai) (ae (ai) (aj)))))))) (ao (aD (i:=5) GR.nd rfl ‹1› (CN N_Join rfl)) (ao (cZ hp rfl (rX rfl bD (ae (ai) (ae (aZ (nX rfl) rfl oC QC (ae (aZ (ki rfl) rfl gf QB (ae (aZ bJ rfl bH PySem.boot_len (ae (aa (xv 0)) (aj))) (ae (ai) (aj)))) (ae (ai) (aj)))) (aj)))) (aI (i:=6) GR.nd rfl ‹1›) (ao (aD (i:=7) GR.nd rfl ‹1› (ax lu aY hr ‹0› (ae (aa (xv 1)) (ae (aa (xv 2)) (ae (aa (xv 4)) (ae (sJ jP hr ‹0› (aa (xv 5)) (ae (bP (ae (aa (xv 1)) (ae (aa (xv 2)) (aj)))) (ae (aa (xv 4)) (aj)))) (ae (ax dh aY hr ‹0› (ae (aa (xv 0)) (ae (aa (xv 6)) (aj)))) (aj)))))))) (ao (aD (i:=8) GR.nd rfl ‹1› (sJ qa hr ‹0› (aa (xv 5)) (ae (bP (ae (aa (xv 1)) (ae (aa (xv 2)) (aj)))) (ae (aa (xv 4)) (ae (aa (xv 7)) (aj)))))) (ao (bY (wZ (js (jf (df (gY qV rfl bF rfl aM Qz (aa (xv 8))))) (hZ (aX (rp hr.units) au (aZ bJ rfl bH PySem.boot_len (ae (aa (xv 8)) (aj))) (ai) (bW _))))) (az (aN (du))) (aL)) (ao (bY (wZ (js (jf (df (ax gZ aY hr ‹0› (ae (ay (aa (xv 8)) (ai) (λ_ _=>rfl)) (ae (aa (xv 3)) (aj)))))) (hZ (jf (df (ax gZ aY hr ‹0› (ae (ay (aa (xv 8)) (ai) (λ_ _=>rfl)) (ae (aa (xv 3)) (aj))))))))) (az (aN (du))) (aL)) (ao (bY (wZ (js (jf (df (ax fU (kU 12) hr ‹0› (ae (sJ jP hr ‹0› (aa (xv 5)) (ae (bP (ae (aa (xv 1)) (ae (aa (xv 2)) (aj)))) (ae (aa (xv 8)) (aj)))) (ae (aa (xv 7)) (aj)))))) (hZ (jf (df (ax kP aY hr ‹0› (ae (aa (xv 1)) (ae (aa (xv 4)) (ae (aa (xv 8)) (ae (aa (xv 7)) (aj))))))))))) (az (aN (du))) (aL)) (ao (bY (aX zz ml (aq aW au (aZ bJ rfl bH PySem.boot_len (ae (ay (aa (xv 8)) (ai) (λ_ _=>rfl)) (aj))) (aZ bJ rfl bH PySem.boot_len (ae (ay (aa (xv 8)) (ai) (λ_ _=>rfl)) (aj)))) (ai) (bW _)) (az (aN (du))) (aL)) (ao (aD (i:=4) GR.nd rfl ‹1› (aa (xv 8))) (bV [6,7,8] aL))))))))) (az (aN (du))))))))⟩)
end
theorem Bw{us:List QI}(h:us.length=1):∃u0,us=[u0]:=match us,h with|[u0],_=>⟨u0,rfl⟩
theorem oT{us:List QI}(h:us.length=2):∃u0 u1,us=[u0,u1]:=match us,h with|[u0,u1],_=>⟨u0,u1,rfl⟩
theorem Ae{us:List QI}(h:us.length=3):∃u0 u1 u2,us=[u0,u1,u2]:=match us,h with|[u0,u1,u2],_=>⟨u0,u1,u2,rfl⟩
theorem DC{us:List QI}(h:us.length=4):∃u0 u1 u2 u3,us=[u0,u1,u2,u3]:=match us,h with|[u0,u1,u2,u3],_=>⟨u0,u1,u2,u3,rfl⟩
theorem HV{us:List QI}(h:us.length=5):∃u0 u1 u2 u3 u4,us=[u0,u1,u2,u3,u4]:=match us,h with|[u0,u1,u2,u3,u4],_=>⟨u0,u1,u2,u3,u4,rfl⟩
theorem KP{us:List QI}(h:us.length=6):∃u0 u1 u2 u3 u4 u5,us=[u0,u1,u2,u3,u4,u5]:=match us,h with|[u0,u1,u2,u3,u4,u5],_=>⟨u0,u1,u2,u3,u4,u5,rfl⟩
theorem all_mk{l:Qc}{w:QJ}{K:PD}{h:QN}{mg:Str->Option QI}{fa:QL}(X:K.In h)(G:h.Ns QQ mg)(hfa:mg "law"=some (.ref fa)){f1 f2:QL}
  (ac0:P5 K QQ "Pair"=some (some (.ref Cl0)))
  (ac1:P5 K QQ "Join"=some (some (.ref Cl1)))
  (a0:P5 K QQ "_law_stays"=some (some (.ref f0)))
  (l0:Lk K f0 "_law_stays" "_law_stays" iG oc0 od0 kV0 dc0 pm0 an0 cd0 ct0 sl0)
  (c0:P4 K cd0 "_law_stays"=true)
  (k0:PY K (.ref f0)=true)
  (a1:P5 K QQ "_law_alike"=some (some (.ref f1)))
  (l1:Lk K f1 "_law_alike" "_law_alike" fN oc1 od1 kV1 dc1 pm1 an1 cd1 ct1 sl1)
  (c1:P4 K cd1 "_law_alike"=true)
  (k1:PY K (.ref f1)=true)
  (a2:PJ K (.ref Cl0) "got"=some (some (.ref f2)))
  (i2:PK K (.ref f2)=true)
  (l2:Lk K f2 "got" "Pair.got" j6 oc2 od2 kV2 dc2 pm2 an2 cd2 ct2 sl2)
  (c2:P4 K cd2 "Pair.got"=true)
  (k2:PY K (.ref f2)=true)
  (a3:P5 K QQ "by_key"=some (some (.ref f3)))
  (l3:Lk K f3 "by_key" "by_key" oq oc3 od3 kV3 dc3 pm3 an3 cd3 ct3 sl3)
  (c3:P4 K cd3 "by_key"=true)
  (k3:PY K (.ref f3)=true)
  (a4:PJ K (.ref Cl1) "got"=some (some (.ref f4)))
  (i4:PK K (.ref f4)=true)
  (l4:Lk K f4 "got" "Join.got" kz oc4 od4 kV4 dc4 pm4 an4 cd4 ct4 sl4)
  (c4:P4 K cd4 "Join.got"=true)
  (k4:PY K (.ref f4)=true)
  (a5:P5 K QQ "_law_rising"=some (some (.ref f5)))
  (l5:Lk K f5 "_law_rising" "_law_rising" hU oc5 od5 kV5 dc5 pm5 an5 cd5 ct5 sl5)
  (c5:P4 K cd5 "_law_rising"=true)
  (k5:PY K (.ref f5)=true)
  (a6:PJ K (.ref Cl0) "put"=some (some (.ref f6)))
  (i6:PK K (.ref f6)=true)
  (l6:Lk K f6 "put" "Pair.put" kJ oc6 od6 kV6 dc6 pm6 an6 cd6 ct6 sl6)
  (c6:P4 K cd6 "Pair.put"=true)
  (k6:PY K (.ref f6)=true)
  (a7:P5 K QQ "sorted_by"=some (some (.ref f7)))
  (l7:Lk K f7 "sorted_by" "sorted_by" jl oc7 od7 kV7 dc7 pm7 an7 cd7 ct7 sl7)
  (c7:P4 K cd7 "sorted_by"=true)
  (k7:PY K (.ref f7)=true)
  (a8:P5 K QQ "standing"=some (some (.ref f8)))
  (l8:Lk K f8 "standing" "standing" jY oc8 od8 kV8 dc8 pm8 an8 cd8 ct8 sl8)
  (c8:P4 K cd8 "standing"=true)
  (k8:PY K (.ref f8)=true)
  (a9:PJ K (.ref Cl1) "put"=some (some (.ref f9)))
  (i9:PK K (.ref f9)=true)
  (l9:Lk K f9 "put" "Join.put" j4 oc9 od9 kV9 dc9 pm9 an9 cd9 ct9 sl9)
  (c9:P4 K cd9 "Join.put"=true)
  (k9:PY K (.ref f9)=true)
  (a10:P5 K QQ "_law_sorted"=some (some (.ref f10)))
  (l10:Lk K f10 "_law_sorted" "_law_sorted" gX oc10 od10 kV10 dc10 pm10 an10 cd10 ct10 sl10)
  (c10:P4 K cd10 "_law_sorted"=true)
  (k10:PY K (.ref f10)=true)
  (a11:P5 K QQ "_law_next"=some (some (.ref f11)))
  (l11:Lk K f11 "_law_next" "_law_next" jh oc11 od11 kV11 dc11 pm11 an11 cd11 ct11 sl11)
  (c11:P4 K cd11 "_law_next"=true)
  (k11:PY K (.ref f11)=true)
  (a12:P5 K QQ "_law_value"=some (some (.ref f12)))
  (l12:Lk K f12 "_law_value" "_law_value" fP oc12 od12 kV12 dc12 pm12 an12 cd12 ct12 sl12)
  (c12:P4 K cd12 "_law_value"=true)
  (k12:PY K (.ref f12)=true)
  (a13:P5 K QQ "_law_row"=some (some (.ref f13)))
  (l13:Lk K f13 "_law_row" "_law_row" iV oc13 od13 kV13 dc13 pm13 an13 cd13 ct13 sl13)
  (c13:P4 K cd13 "_law_row"=true)
  (k13:PY K (.ref f13)=true)
  (a14:P5 K QQ "_law_rows"=some (some (.ref f14)))
  (l14:Lk K f14 "_law_rows" "_law_rows" iw oc14 od14 kV14 dc14 pm14 an14 cd14 ct14 sl14)
  (c14:P4 K cd14 "_law_rows"=true)
  (k14:PY K (.ref f14)=true)
  (a15:P5 K QQ "_law_values"=some (some (.ref f15)))
  (l15:Lk K f15 "_law_values" "_law_values" gW oc15 od15 kV15 dc15 pm15 an15 cd15 ct15 sl15)
  (c15:P4 K cd15 "_law_values"=true)
  (k15:PY K (.ref f15)=true)
  (a16:P5 K QQ "_law_fit"=some (some (.ref f16)))
  (l16:Lk K f16 "_law_fit" "_law_fit" kj oc16 od16 kV16 dc16 pm16 an16 cd16 ct16 sl16)
  (c16:P4 K cd16 "_law_fit"=true)
  (k16:PY K (.ref f16)=true)
  (a17:P5 K QQ "_law_in_both"=some (some (.ref f17)))
  (l17:Lk K f17 "_law_in_both" "_law_in_both" fY oc17 od17 kV17 dc17 pm17 an17 cd17 ct17 sl17)
  (c17:P4 K cd17 "_law_in_both"=true)
  (k17:PY K (.ref f17)=true)
  (a18:P5 K QQ "_law_key_of_both"=some (some (.ref f18)))
  (l18:Lk K f18 "_law_key_of_both" "_law_key_of_both" dN oc18 od18 kV18 dc18 pm18 an18 cd18 ct18 sl18)
  (c18:P4 K cd18 "_law_key_of_both"=true)
  (k18:PY K (.ref f18)=true)
  (a19:P5 K QQ "_law_deed"=some (some (.ref f19)))
  (l19:Lk K f19 "_law_deed" "_law_deed" jj oc19 od19 kV19 dc19 pm19 an19 cd19 ct19 sl19)
  (c19:P4 K cd19 "_law_deed"=true)
  (k19:PY K (.ref f19)=true)
  (a20:P5 K QQ "_law_cell_at"=some (some (.ref f20)))
  (l20:Lk K f20 "_law_cell_at" "_law_cell_at" fQ oc20 od20 kV20 dc20 pm20 an20 cd20 ct20 sl20)
  (c20:P4 K cd20 "_law_cell_at"=true)
  (k20:PY K (.ref f20)=true)
  (a21:P5 K QQ "_law_seed"=some (some (.ref f21)))
  (l21:Lk K f21 "_law_seed" "_law_seed" jm oc21 od21 kV21 dc21 pm21 an21 cd21 ct21 sl21)
  (c21:P4 K cd21 "_law_seed"=true)
  (k21:PY K (.ref f21)=true)
  (a22:P5 K QQ "_law_joined_tables"=some (some (.ref f22)))
  (l22:Lk K f22 "_law_joined_tables" "_law_joined_tables" dj oc22 od22 kV22 dc22 pm22 an22 cd22 ct22 sl22)
  (c22:P4 K cd22 "_law_joined_tables"=true)
  (k22:PY K (.ref f22)=true)
  (a23:P5 K QQ "_law_name"=some (some (.ref f23)))
  (l23:Lk K f23 "_law_name" "_law_name" jk oc23 od23 kV23 dc23 pm23 an23 cd23 ct23 sl23)
  (c23:P4 K cd23 "_law_name"=true)
  (k23:PY K (.ref f23)=true)
  (a24:P5 K QQ "_law_plain"=some (some (.ref f24)))
  (l24:Lk K f24 "_law_plain" "_law_plain" iE oc24 od24 kV24 dc24 pm24 an24 cd24 ct24 sl24)
  (c24:P4 K cd24 "_law_plain"=true)
  (k24:PY K (.ref f24)=true)
  (a25:P5 K QQ "_law_kind"=some (some (.ref f25)))
  (l25:Lk K f25 "_law_kind" "_law_kind" ir oc25 od25 kV25 dc25 pm25 an25 cd25 ct25 sl25)
  (c25:P4 K cd25 "_law_kind"=true)
  (k25:PY K (.ref f25)=true)
  (a26:P5 K QQ "_law_form"=some (some (.ref f26)))
  (l26:Lk K f26 "_law_form" "_law_form" ie oc26 od26 kV26 dc26 pm26 an26 cd26 ct26 sl26)
  (c26:P4 K cd26 "_law_form"=true)
  (k26:PY K (.ref f26)=true)
  (a27:P5 K QQ "_law_some_words"=some (some (.ref f27)))
  (l27:Lk K f27 "_law_some_words" "_law_some_words" eE oc27 od27 kV27 dc27 pm27 an27 cd27 ct27 sl27)
  (c27:P4 K cd27 "_law_some_words"=true)
  (k27:PY K (.ref f27)=true)
  (a28:P5 K QQ "_law_two_kinds"=some (some (.ref f28)))
  (l28:Lk K f28 "_law_two_kinds" "_law_two_kinds" eW oc28 od28 kV28 dc28 pm28 an28 cd28 ct28 sl28)
  (c28:P4 K cd28 "_law_two_kinds"=true)
  (k28:PY K (.ref f28)=true)
  (a29:P5 K QQ "_law_two_keys"=some (some (.ref f29)))
  (l29:Lk K f29 "_law_two_keys" "_law_two_keys" fe oc29 od29 kV29 dc29 pm29 an29 cd29 ct29 sl29)
  (c29:P4 K cd29 "_law_two_keys"=true)
  (k29:PY K (.ref f29)=true)
  (a30:P5 K QQ "_law_joined_forms"=some (some (.ref f30)))
  (l30:Lk K f30 "_law_joined_forms" "_law_joined_forms" dB oc30 od30 kV30 dc30 pm30 an30 cd30 ct30 sl30)
  (c30:P4 K cd30 "_law_joined_forms"=true)
  (k30:PY K (.ref f30)=true)
  (a31:P5 K QQ "law"=some (some (.ref f31)))
  (l31:Lk K f31 "law" "law" rH oc31 od31 kV31 dc31 pm31 an31 cd31 ct31 sl31)
  (c31:P4 K cd31 "law"=true)
  (k31:PY K (.ref f31)=true)
  (p0:PH K Cl0 Str.empty=true)
  (q0:PV K Cl0=true)
  (r0:PX K Cl0=true)
  (s0:PJ K (.ref Cl0) "__setattr__"=some (some (.builtin "object.__setattr__")))
  (p1:PH K Cl1 Str.empty=true)
  (q1:PV K Cl1=true)
  (r1:PX K Cl1=true)
  (s1:PJ K (.ref Cl1) "__setattr__"=some (some (.builtin "object.__setattr__")))
  (o1:PJ K (.ref Cl1) "__init__"=some (some (.builtin "object.__init__")))
  (m1:PN K Cl1=true)
  (kp1:PY K (.ref Cl1)=true)
  (z0:P5 K QQ "len"=some none)
  (z1:P5 K QQ "isinstance"=some none)
  (z2:P5 K QQ "str"=some none)
  (z3:P5 K QQ "bool"=some none)
  (z4:P5 K QQ "int"=some none)
  (z5:P5 K QQ "tuple"=some none)
  (z6:P5 K QQ "zip"=some none)
  (z7:P5 K QQ "dict"=some none)
  (z8:P5 K QQ "range"=some none)
  (z9:P5 K QQ "sorted"=some none)
  (z10:P5 K QQ "list"=some none)
  (z11:P5 K QQ "max"=some none)
  (z12:P5 K QQ "min"=some none)
  (z13:P5 K QQ "enumerate"=some none)
  (lc:cd7=.ref cL)
  (lh:Qe K cL T=true)
  (lt:K.lookup T=none):
  (∃c,Qe K c T=true)/\K.lookup T=none/\∃fd:Rm,(∀(s:QU)(v:QI),Rn s fd ⟨[v],[]⟩ [("_law_script",v)])/\∀base:QN,K.In base->base.Ns QQ mg->yQ mg base->nA l.prog w K mg base (nZ l.prog w) 16 fa fd ["_law_script"] (@Bs (vp T ⟨6,34,6,56⟩ ((("sorted_by":Str)++".<locals>.")++"<lambda>")) K 1 (bv qR 1 9)):=by
 letI:bd:=vp T ⟨6,34,6,56⟩ ((("sorted_by":Str)++".<locals>.")++"<lambda>")
 have e:=hfa.symm.trans (Qf X G a31);cases e;have bH:=Qg X G z0;have bF:=Qg X G z1;have sj:=Qg X G z2;have km:=Qg X G z3;have h7:=Qg X G z4;have aM:=Qg X G z5;have kX:=Qg X G z6;have yp:=Qg X G z7;have bD:=Qg X G z8;have dS:=Qg X G z9;have iz:=Qg X G z10;have gf:=Qg X G z11;have oC:=Qg X G z12;have jp:=Qg X G z13;have F0:=cn (st:=iG) l0 c0 k0;have b0:=F0.binds (ps:=["_law_one","_law_tables","_law_put","_law_view"]) λ_ _ _ _ _ _ us hl=>by obtain⟨u0,u1,u2,u3,rfl⟩:=DC hl;rfl
 have F1:=cn (st:=fN) l1 c1 k1;have b1:=F1.binds (ps:=["_law_found","_law_due"]) λ_ _ _ _ _ _ us hl=>by obtain⟨u0,u1,rfl⟩:=oT hl;rfl
 have F2:=cn (st:=j6) l2 c2 k2;have b2:=F2.binds (ps:=["self","forms","tables"]) λ_ _ _ _ _ _ us hl=>by obtain⟨u0,u1,u2,rfl⟩:=Ae hl;rfl
 have F3:=cn (st:=oq) l3 c3 k3;have b3:=F3.binds (ps:=["many","rows"]) λ_ _ _ _ _ _ us hl=>by obtain⟨u0,u1,rfl⟩:=oT hl;rfl
 have F4:=cn (st:=kz) l4 c4 k4;have b4:=F4.binds (ps:=["self","forms","tables"]) λ_ _ _ _ _ _ us hl=>by obtain⟨u0,u1,u2,rfl⟩:=Ae hl;rfl
 have F5:=cn (st:=hU) l5 c5 k5;have b5:=F5.binds (ps:=["_law_table","_law_many"]) λ_ _ _ _ _ _ us hl=>by obtain⟨u0,u1,rfl⟩:=oT hl;rfl
 have F6:=cn (st:=kJ) l6 c6 k6;have b6:=F6.binds (ps:=["self","forms","tables","view"]) λ_ _ _ _ _ _ us hl=>by obtain⟨u0,u1,u2,u3,rfl⟩:=DC hl;rfl
 have F7:=cn (st:=jl) l7 c7 k7;have b7:=F7.binds (ps:=["many","rows"]) λ_ _ _ _ _ _ us hl=>by obtain⟨u0,u1,rfl⟩:=oT hl;rfl
 have F8:=cn (st:=jY) l8 c8 k8;have b8:=F8.binds (ps:=["many","rows","others"]) λ_ _ _ _ _ _ us hl=>by obtain⟨u0,u1,u2,rfl⟩:=Ae hl;rfl
 have F9:=cn (st:=j4) l9 c9 k9;have b9:=F9.binds (ps:=["self","forms","tables","view"]) λ_ _ _ _ _ _ us hl=>by obtain⟨u0,u1,u2,u3,rfl⟩:=DC hl;rfl
 have F10:=cn (st:=gX) l10 c10 k10;have b10:=F10.binds (ps:=["_law_many","_law_rows_here"]) λ_ _ _ _ _ _ us hl=>by obtain⟨u0,u1,rfl⟩:=oT hl;rfl
 have F11:=cn (st:=jh) l11 c11 k11;have b11:=F11.binds (ps:=["_law_x"]) λ_ _ _ _ _ _ us hl=>by obtain⟨u0,rfl⟩:=Bw hl;rfl
 have F12:=cn (st:=fP) l12 c12 k12;have b12:=F12.binds (ps:=["_law_kind_here","_law_x"]) λ_ _ _ _ _ _ us hl=>by obtain⟨u0,u1,rfl⟩:=oT hl;rfl
 have F13:=cn (st:=iV) l13 c13 k13;have b13:=F13.binds (ps:=["_law_form_here","_law_many","_law_head","_law_tail"]) λ_ _ _ _ _ _ us hl=>by obtain⟨u0,u1,u2,u3,rfl⟩:=DC hl;rfl
 have F14:=cn (st:=iw) l14 c14 k14;have b14:=F14.binds (ps:=["_law_form_here","_law_x","_law_many"]) λ_ _ _ _ _ _ us hl=>by obtain⟨u0,u1,u2,rfl⟩:=Ae hl;rfl
 have F15:=cn (st:=gW) l15 c15 k15;have b15:=F15.binds (ps:=["_law_fields","_law_x"]) λ_ _ _ _ _ _ us hl=>by obtain⟨u0,u1,rfl⟩:=oT hl;rfl
 have F16:=cn (st:=kj) l16 c16 k16;have b16:=F16.binds (ps:=["_law_fields","_law_key"]) λ_ _ _ _ _ _ us hl=>by obtain⟨u0,u1,rfl⟩:=oT hl;rfl
 have F17:=cn (st:=fY) l17 c17 k17;have b17:=F17.binds (ps:=["_law_one","_law_other"]) λ_ _ _ _ _ _ us hl=>by obtain⟨u0,u1,rfl⟩:=oT hl;rfl
 have F18:=cn (st:=dN) l18 c18 k18;have b18:=F18.binds (ps:=["_law_one","_law_other"]) λ_ _ _ _ _ _ us hl=>by obtain⟨u0,u1,rfl⟩:=oT hl;rfl
 have F19:=cn (st:=jj) l19 c19 k19;have b19:=F19.binds (ps:=["_law_one","_law_other","_law_tables","_law_view","_law_x"]) λ_ _ _ _ _ _ us hl=>by obtain⟨u0,u1,u2,u3,u4,rfl⟩:=HV hl;rfl
 have F20:=cn (st:=fQ) l20 c20 k20;have b20:=F20.binds (ps:=["_law_script","_law_k"]) λ_ _ _ _ _ _ us hl=>by obtain⟨u0,u1,rfl⟩:=oT hl;rfl
 have F21:=cn (st:=jm) l21 c21 k21;have b21:=F21.binds (ps:=["_law_script","_law_k"]) λ_ _ _ _ _ _ us hl=>by obtain⟨u0,u1,rfl⟩:=oT hl;rfl
 have F22:=cn (st:=dj) l22 c22 k22;have b22:=F22.binds (ps:=["_law_one","_law_other","_law_script","_law_start","_law_most"]) λ_ _ _ _ _ _ us hl=>by obtain⟨u0,u1,u2,u3,u4,rfl⟩:=HV hl;rfl
 have F23:=cn (st:=jk) l23 c23 k23;have b23:=F23.binds (ps:=["_law_base","_law_k"]) λ_ _ _ _ _ _ us hl=>by obtain⟨u0,u1,rfl⟩:=oT hl;rfl
 have F24:=cn (st:=iE) l24 c24 k24;have b24:=F24.binds (ps:=["_law_x"]) λ_ _ _ _ _ _ us hl=>by obtain⟨u0,rfl⟩:=Bw hl;rfl
 have F25:=cn (st:=ir) l25 c25 k25;have b25:=F25.binds (ps:=["_law_x","_law_base","_law_deep"]) λ_ _ _ _ _ _ us hl=>by obtain⟨u0,u1,u2,rfl⟩:=Ae hl;rfl
 have F26:=cn (st:=ie) l26 c26 k26;have b26:=F26.binds (ps:=["_law_x","_law_base","_law_start","_law_many","_law_more","_law_deep"]) λ_ _ _ _ _ _ us hl=>by obtain⟨u0,u1,u2,u3,u4,u5,rfl⟩:=KP hl;rfl
 have F27:=cn (st:=eE) l27 c27 k27;have b27:=F27.binds (ps:=["_law_x"]) λ_ _ _ _ _ _ us hl=>by obtain⟨u0,rfl⟩:=Bw hl;rfl
 have F28:=cn (st:=eW) l28 c28 k28;have b28:=F28.binds (ps:=["_law_x"]) λ_ _ _ _ _ _ us hl=>by obtain⟨u0,rfl⟩:=Bw hl;rfl
 have F29:=cn (st:=fe) l29 c29 k29;have b29:=F29.binds (ps:=["_law_x","_law_base","_law_many"]) λ_ _ _ _ _ _ us hl=>by obtain⟨u0,u1,u2,rfl⟩:=Ae hl;rfl
 have F30:=cn (st:=dB) l30 c30 k30;have b30:=F30.binds (ps:=["_law_script"]) λ_ _ _ _ _ _ us hl=>by obtain⟨u0,rfl⟩:=Bw hl;rfl
 have F31:=cn (st:=rH) l31 c31 k31;have cl0:HH K Cl0:=⟨p0,q0,r0,s0⟩
 have cl1:HH K Cl1:=⟨p1,q1,r1,s1⟩
 have lC:ud K f7 (.ref cL):=⟨_,_,_,_,l7,lc⟩
 refine⟨⟨cL,lh⟩,lt,P0 "law" "law" (mG rH) (fI rH) (aB rH) .none kV31 dc31 pm31 an31 cd31 ct31,λs v=>.of_eq rfl,λbase kb _ bm=>?_⟩;have N_Join:zp K mg "Join":=⟨_,ac1,⟨m1,o1,kp1⟩,Qf X G ac1⟩
 have kP:=bC F0 b0 (Qf X G a0) sV (cV.ok (tD (P:=l.prog) (w:=w) (base:=base) (f:=f0) bH));have fam:=lL (P:=l.prog) (w:=w) (base:=base) F1 b1 (Qf X G a1) bF sj km h7 aM bH kX 12;have fU:=fam;have okb_Pair_got:=vS (P:=l.prog) (w:=w) (base:=base) (K:=K) (mg:=mg) (f:=f2);have fZ:=bC F3 b3 (Qf X G a3) Ay (cV.ok (Bg (P:=l.prog) (w:=w) (base:=base) (f:=f3) yp));have okb_Join_got:=xE (P:=l.prog) (w:=w) (base:=base) (K:=K) (mg:=mg) (f:=f4) fZ bH aM;have gZ:=bC F5 b5 (Qf X G a5) qW (cV.ok (sq (P:=l.prog) (w:=w) (base:=base) (f:=f5) bD bH));have okb_Pair_put:=xt (P:=l.prog) (w:=w) (base:=base) (K:=K) (mg:=mg) (f:=f6);have lR:=yM F7 b7 (Qf X G a7) vw (Dm.ok (vA (P:=l.prog) (w:=w) (base:=base) (f:=f7) aM dS (DR kb lh bm) lC λ_ z=>z));have ky:=bC F8 b8 (Qf X G a8) vV (cV.ok (wN (P:=l.prog) (w:=w) (base:=base) (f:=f8) fZ lR iz));have okb_Join_put:=xx (P:=l.prog) (w:=w) (base:=base) (K:=K) (mg:=mg) (f:=f9) fZ ky bH;have bz:=bC F10 b10 (Qf X G a10) sf (cV.ok (rq (P:=l.prog) (w:=w) (base:=base) (f:=f10) aM dS iz));have aC:=bC F11 b11 (Qf X G a11) vt (cV.ok (uZ (P:=l.prog) (w:=w) (base:=base) (f:=f11) ));have fam:=md (P:=l.prog) (w:=w) (base:=base) F12 b12 (Qf X G a12) F13 b13 (Qf X G a13) F14 b14 (Qf X G a14) aC bz bH gf h7 aM bD 12;have fS:=fam.1;have fA:=fam.2.1;have je:=fam.2.2;have cE:=bC F15 b15 (Qf X G a15) su (cV.ok (rj (P:=l.prog) (w:=w) (base:=base) (f:=f15) fA aM));have nY:=bC F16 b16 (Qf X G a16) wC (cV.ok (wx (P:=l.prog) (w:=w) (base:=base) (f:=f16) kX));have iT:=bC F17 b17 (Qf X G a17) qu (cV.ok (qx (P:=l.prog) (w:=w) (base:=base) (f:=f17) oC gf aM));have cB:=bC F18 b18 (Qf X G a18) nz (cV.ok (nB (P:=l.prog) (w:=w) (base:=base) (f:=f18) iT kX aM));have lu:=bC F19 b19 (Qf X G a19) vo (cV.ok (vn (P:=l.prog) (w:=w) (base:=base) (f:=f19) cB cE nY aC bz bH));have dJ:=bC F20 b20 (Qf X G a20) qq (cV.ok (qw (P:=l.prog) (w:=w) (base:=base) (f:=f20) bH));have dh:=bC F21 b21 (Qf X G a21) uY (cV.ok (vj (P:=l.prog) (w:=w) (base:=base) (f:=f21) dJ aC));have eG:=bC F22 b22 (Qf X G a22) lj (cV.ok (lm (P:=l.prog) (w:=w) (base:=base) (f:=f22) cB dh aC cE bz bD oC gf bH));have cu:=bC F23 b23 (Qf X G a23) vx (cV.ok (vc (P:=l.prog) (w:=w) (base:=base) (f:=f23) bD));have cS:=bC F24 b24 (Qf X G a24) sO (cV.ok (sQ (P:=l.prog) (w:=w) (base:=base) (f:=f24) bD bH aM dS iz));have fam:=nG (P:=l.prog) (w:=w) (base:=base) F25 b25 (Qf X G a25) F26 b26 (Qf X G a26) cS aC cu bD aM 12;have ly:=fam.1;have eI:=fam.2;have fV:=bC F27 b27 (Qf X G a27) nV (cV.ok (nS (P:=l.prog) (w:=w) (base:=base) (f:=f27) dS iz));have gB:=bC F28 b28 (Qf X G a28) oh (cV.ok (ot (P:=l.prog) (w:=w) (base:=base) (f:=f28) aC fV bH aM jp));have iC:=bC F29 b29 (Qf X G a29) p9 (cV.ok (ph (P:=l.prog) (w:=w) (base:=base) (f:=f29) aC gB cu bD aM));have eZ:=bC F30 b30 (Qf X G a30) lT (cV.ok (lP (P:=l.prog) (w:=w) (base:=base) (f:=f30) dh dJ iC aC eI));have lU:nI l.prog w K mg base 15 "got" ["self","forms","tables"] [("Pair",(bv gF 3 3)),("Join",(bv eP 3 5))]:=oP (MethAt.mono (nu (c:="Pair") (m:="got") ac0 cl0 ⟨a2,i2,k2⟩ F2 b2 vY (cV.ok okb_Pair_got)) (by decide)) aY (oP (MethAt.mono (nu (c:="Join") (m:="got") ac1 cl1 ⟨a4,i4,k4⟩ F4 b4 wL (cV.ok okb_Join_got)) (by decide)) aY (zI));have lK:nI l.prog w K mg base 15 "put" ["self","forms","tables","view"] [("Pair",(bv iR 4 4)),("Join",(bv fu 4 10))]:=oP (MethAt.mono (nu (c:="Pair") (m:="put") ac0 cl0 ⟨a6,i6,k6⟩ F6 b6 v5 (cV.ok okb_Pair_put)) (by decide)) aY (oP (MethAt.mono (nu (c:="Join") (m:="put") ac1 cl1 ⟨a9,i9,k9⟩ F9 b9 wo (cV.ok okb_Join_put)) (by decide)) aY (zI));exact HF (P:=l.prog) (w:=w) (base:=base) F31 eZ eG lu dh gZ fU kP lU lK N_Join bH bD oC gf bF aM
theorem walk{l:Qc}{q:QK}{loose:List Str}{XP:(Str->Option QI)->QN->Prop}{YP:QJ->QN->Prop}{d:DefRec}{K:Params->PD}{T:QL}(hn:l.most=some 63)(hdf:d.params.defaults=[])
  (hY:∀(w:QJ)(h:QN),YP w h->(K w.params).In h/\h.get? T=some (Qa #[]))
  (F:∀ (w:QJ) (mg:Str->Option QI) (fa:QL) (h:QN),(K w.params).In h->h.Ns QQ mg->mg d.name=some (.ref fa) ->
   (∃c,Qe (K w.params) c T=true)/\(K w.params).lookup T=none/\∃fd:Rm,(∀(s:QU)(u:QI),Rn s fd ⟨[u],[]⟩ [("_law_script",u)])/\∀base:QN,(K w.params).In base->base.Ns QQ mg->yQ mg base->nA l.prog w (K w.params) mg base (nZ l.prog w) 16 fa fd ["_law_script"] (@Bs (vp T ⟨6,34,6,56⟩ ((("sorted_by":Str)++".<locals>.")++"<lambda>")) (K w.params) 1 (bv qR 1 9)))
  (math:∀ns:List Int,ns.length<=63->bv qR 1 9 [.lst (ns.map .int)]=.ok (.bl true)):PySem.W.WalkO q loose XP YP l.row.toRowW d [] (λf vs=>PySem.call f vs):=
 BG (n:=63) (k:=16) (x:="_law_script") (T:=T) (CX:=λw=>nZ l.prog w) (sp:=λw=>@Bs (vp T ⟨6,34,6,56⟩ ((("sorted_by":Str)++".<locals>.")++"<lambda>")) (K w.params) 1 (bv qR 1 9)) hn (by decide) hdf ⟨rfl,by decide,by decide⟩ hY F
  (λw H a ns hl hT hS=>⟨[],[.lst (ns.map .int)],rfl,⟨hT,λa h=>nomatch h⟩,by rw[DY];exact bM.mpr ⟨.ref a,[],rfl,cH.mpr ⟨a,_,rfl,hS,uz ns⟩,cY.mpr rfl⟩,by rw[math ns hl];exact λv H' sm d=>⟨lG.mp d,sm⟩⟩) λ_ _ _ _ _ z=>by obtain⟨_,_,_,_,_,_,_,_,_,_,_,_,_,z⟩:=z;exact z
end Tk56
namespace Tk56
open PySem PySem.Spec L2 TG TD T4
local macro_rules|`(‹$x›)=>do if x.raw.isOfKind `num then Lean.Macro.throwUnsupported else `(some (S.val $x))
local macro_rules
 |`(tactic| simp! only[$xs,*])=>`(tactic| simp only[dY,uN,q5,uD,kR,e7,ge_0,A2,pS,Au,pU,nh,pj,pT,Aw,AD,Bh,Aq,A5,oU,pA,tU,jV,mK,p6,mP,ue,pc,pW,mY,o4,jO,p4,jE,jR,iP,iO,pX,mB,iM,ng,jI,mh,mZ,iI,mi,jQ,nN,mU,jA,jb,mV,nc,As,ua,AJ,Af,Am,oX,mF,pE,mj,mH,AH,zZ,O1,O2,Ny,Nx,NS,N4,K0,env0,List.replicate,O3,Nf,Ot,Nat.reduceAdd,Nat.reduceSub,NE,NF,qb,pN,ux,pD,o7,pQ,iQ,o3,t9,uG,ub,pL,jJ,jX,jC,jx,jU,jL,ra,uh,uP,tP,tZ,tO,jK,jF,gG,gV,oY,iL,gr,gz,gQ,iU,ju,gU,gA,jN,jW,mO,my,jM,mS,pJ,oZ,mQ,mN,gN,if_true,if_false,O5,O6,NQ,$xs,*])
theorem gm(j:Int)(h:0<j:=by decide):∀i:Int,cw (.int i) (.int j)=some (.int (i%j)):=λi=>eY (i:=i) h
theorem gd(j:Int)(h:0<j:=by decide)(h':j<10^200:=by decide):∀i:Int,cW (.int i) (.int j)=some (.int (i/j)):=λi=>lY (i:=i) h h'
inductive Kd where
 |num (lo hi:Int)|wrd (ws:List Str)
def Kd.d:Kd->D
 |.num lo hi=>.tup [.str "number",.int lo,.int hi]
 |.wrd ws=>.tup [.str "word",.tup (ws.map .str)]
def Kd.gd:Kd->Prop
 |.num lo hi=>lo<=hi
 |.wrd ws=>ws≠[]/\ws.length<=100
def Kd.b:Kd->Bool
 |.num _ _=>true
 |.wrd _=>false
abbrev KL:=List (Str×Kd)
def kf(p:Str×Kd):D:=.tup [.str p.1,p.2.d]
abbrev fr(k:KL)(r:List (Str×D)):D:=.tup [.tup (k.map kf),.tup (r.map fld)]
def toD(p:Str×Kd):Str×D:=(p.1,p.2.d)
theorem yA(k:KL):k.map kf=(k.map toD).map fld:=by rw[OL];rfl
theorem rE:(("number":Str)==("number":Str))=true:=by decide +kernel
theorem vh:(("word":Str)==("word":Str))=true:=by decide +kernel
theorem vG:(("word":Str)==("number":Str))=false:=by decide +kernel
theorem GI:(("rows":Str)==("number":Str))=false:=by decide +kernel
theorem ED:(("rows":Str)==("word":Str))=false:=by decide +kernel
def KG:Nat->D->Prop
 |0,d=>∃c:Kd,c.gd/\d=c.d
 |n+1,d=>(∃c:Kd,c.gd/\d=c.d)\/∃(ks:KL)(qs:List (Str×D))(b:Bool),d=.tup [.str "rows",fr ks qs,.bl b]/\1<=ks.length/\ks.length<=8/\(∀p∈ks,p.2.gd)/\qs.length<=8/\∀q∈qs,KG n q.2
theorem El(ws:List Str)(w:Str):pq ws w≠[]:=by
 unfold pq;split
 ·rename_i h;intro z;rw[z]at h;simp at h
 ·simp
theorem Fp(ws:List Str)(h:ws.Nodup)(hl:ws.length<64):∃us:List Str,e9 [.lst (ws.map .str)]=some (.lst (us.map .str))/\us.Perm ws:=by
 have pz:∀zs:List D,zs.Perm (ws.map D.str)->∃us:List Str,zs=us.map .str/\us.Perm ws:=λzs p=>by
  have e:zs=(zs.map λz=>match z with|.str w=>w|_=>"").map .str:=by
   rw[OL]
   conv=>lhs;rw[<-List.map_id zs]
   refine N5 λz hz=>?_;obtain⟨w,_,rfl⟩:=List.mem_map.mp (p.mem_iff.mp hz);rfl
  refine⟨_,e,?_⟩;have q:=p.map λz:D=>match z with|.str w=>w|_=>("":Str)
  rw[OL]at q;have e2:ws.map ((λz:D=>match z with|.str w=>w|_=>("":Str))∘D.str)=ws:=by
   conv=>rhs;rw[<-List.map_id ws]
   exact N5 λ_ _=>rfl
  rw[e2]at q;exact q
 have fin:∀key:D->List D,∃us:List Str,some (D.lst (iW key (ws.map .str)))=some (.lst (us.map .str))/\us.Perm ws:=λkey=>by
  obtain⟨us,e,q⟩:=pz _ (fm key (ws.map .str));exact⟨us,by rw[e],q⟩
 show∃us,qi (ws.map .str)=_/\_;unfold qi;by_cases a:Gj (ws.map .str)
 ·rw[if_pos a];exact fin _
 ·have b:Ju (ws.map .str):=by
   refine⟨by rw[Nq];exact hl,false,λx hx=>?_,?_⟩
   ·obtain⟨w,_,rfl⟩:=List.mem_map.mp hx;exact .str w .nil
   ·rw[OI];refine h.imp λhne e=>hne ?_;have e:[D.str _]=[D.str _]:=e;injection e with e _;injection e
  rw[if_neg a,if_pos b];exact fin _
theorem sy(x:Int)(h0:0<=x)(h1:x<2147483700):∃c:Kd,bv cR 1 8 [.int x]=.ok c.d/\c.gd:=by
 have g3:=gm 3;have g4:=gm 4;have g26:=gm 26;have d3:=gd 3;have d12:=gd 12;have d78:=gd 78;have d2028:=gd 2028;have p7:jG (.int x) (.int 7)=some (.int (x^7)):=uR x 7 (by decide) ‹0›;have pb:=Fu;have gp:=λi=>eY (i:=i) (show(0:Int)<Bj by omega);rw[pC];unfold cR;by_cases h:x%3<2
 ·have h':decide (x%3<2)=true:=decide_eq_true h;obtain⟨v,hv,e1⟩:=MD (.int 0) (.int (-3)) (.int (0-x^7%Bj)) (.int (x^7%Bj)) (x/3%4) ‹0› ‹0›;obtain⟨lo,rfl⟩:∃lo:Int,v=.int lo:=by
   simp only[Oh,Pa,or_false]at hv;rcases hv with rfl|rfl|rfl|rfl<;>exact⟨_,rfl⟩
  obtain⟨w,w0,e2⟩:∃w:Int,0<=w/\aA (.lst [.int 0,.int 1,.int 6,.int Bj]) (.int (x/12%4))=some (.int w):=by
   rcases(show x/12%4=0\/x/12%4=1\/x/12%4=2\/x/12%4=3 by omega)with z|z|z|z<;>rw[z]
   ·exact⟨0,by decide,rfl⟩
   ·exact⟨1,by decide,rfl⟩
   ·exact⟨6,by decide,rfl⟩
   ·exact⟨Bj,by omega,rfl⟩
  refine⟨.num lo (lo+w),?_,by show lo<=lo+w;omega⟩;unfold Kd.d;simp! only[g3,h',p7,yn,gp,Iq,d3,g4,e1,d12,e2,HM]
 ·have h':decide (x%3<2)=false:=decide_eq_false h;have LL:(("abcdefghijklmnopqrstuvwxyz":Str)).length=26:=by decide +kernel
  have L0:(("":Str)).length<=1000:=by decide +kernel
  generalize hL:("abcdefghijklmnopqrstuvwxyz":Str)=L at LL;obtain⟨one,ho,e1⟩:=qy L ‹0› (x/3%26) ‹0› ‹0›;obtain⟨oth,hq,e2⟩:=qy L ‹0› (x/78%26) ‹0› ‹0›;have a1:=ia one oth ‹0› ‹0›;have a2:=ia oth one ‹0› ‹0›;have a3:=ia one one ‹0› ‹0›;have m1:=BU (x:=one) (n:=8) (by decide) (by decide) ‹0›;have m2:=BU (x:=oth) (n:=3) (by decide) (by decide) ‹0›;have r8:kI [.int 8]=some (dM 0 8):=jH 8 (by decide);generalize hW:[D.str "",.str one,.str oth,.str (one++oth),.str (oth++one),.str (jB one 8),.str (one++one),.str (jB oth 3)]=W;have W8:W.length=8:=by rw[<-hW];rfl
  have Ws:∀d∈W,∃w:Str,d=.str w:=by
   rw[<-hW];intro d hd;simp only[Oh,Pa,or_false]at hd;rcases hd with rfl|rfl|rfl|rfl|rfl|rfl|rfl|rfl<;>exact⟨_,rfl⟩
  obtain⟨T,hT⟩:∃T:cx,T=(aH (fT (fM (ah (fC (.int 8)) (aw))) (gN 7) (aH (ik (fB (f2 lg (f2 se (f2 yr (f2 cW (af 0) (fC (.int 2028))) (af 7)) (fC (.int 1))) (fC (.int 1)))) (nK 6 (f2 aA (af 5) (af 7)) (fC (.bl true))) (bZ)) (cD [7] bZ))) (aH (ik (lA [6] (fB (f2 lg (fL uw (ah (af 6) (aw))) (fC (.int 0))))) (nK 6 (af 3) (fC (.bl true))) (bZ)) (ic 6 (bI (cF (ah (fC (.str "word")) (ah (fL cC (ah (fL e9 (ah (fL lV (ah (af 6) (aw))) (aw))) (aw))) (aw)))))))):=⟨_,rfl⟩
  have fin:∀ws:List Str,ws.Nodup->ws.length<=10->ws≠[]->∃c:Kd,ic 6 (bI (cF (ah (fC (.str "word")) (ah (fL cC (ah (fL e9 (ah (fL lV (ah (af 6) (aw))) (aw))) (aw))) (aw))))) K0 [‹.int x›,none,none,‹.str one›,none,‹.lst W›,some (.own (wd ws)),none]=.ok c.d/\c.gd:=λws nd hl wn=>by
   obtain⟨us,ez,pz⟩:=Fp ws nd ‹0›;refine⟨.wrd us,?_,⟨λz=>wn (by rw[z]at pz;exact pz.symm.eq_nil),by rw[pz.length_eq];omega⟩⟩;unfold Kd.d;simp! only[xL,ez,uS]
  have key:∃c:Kd,T K0 [‹.int x›,none,none,‹.str one›,none,‹.lst W›,some (.own (.dct [] [])),none]=.ok c.d/\c.gd:=by
   rw[hT,iI,jb];simp! only[r8];refine dC (Q:=λz=>∃c:Kd,z=.ok c.d/\c.gd) (λi ρ=>∃ws:List Str,ws.Nodup/\ws.length<=i/\ρ=[‹.int x›,none,none,‹.str one›,none,‹.lst W›,some (.own (wd ws)),none]) ?_ ⟨[],NM,M3 _,rfl⟩ ?_
   ·rintro i d ρ kk hd ⟨ws,nd,hl,rfl⟩;have hi:=cm hd;rw[cz]at hi;have hdi:d=.int (i:Int):=by
     rw[gK,Nm,Oa hi]at hd;cases hd;simp
    subst hdi;obtain⟨w,ew⟩:=Ws (W[i]'‹0›) (OH _);have ix:aA (.lst W) (.int (i:Int))=some (.str w):=by
     rw[Gg,rh ‹0›,ew]
    have sh:=Cg (x/2028) i;cases hb:(Builtin.bitAnd (x/2028/2^i) 1==1)with
    |false=>
     refine⟨_,_,rfl,⟨ws,nd,by omega,rfl⟩,?_⟩;simp! only[d2028,sh,vP,hb]
    |true=>
     refine⟨_,_,rfl,⟨pq ws w,vJ w nd,by have:=qX ws w;omega,rfl⟩,?_⟩;have pk:=λk:Ks=>vi (i:=6) (fk:=f2 aA (af 5) (af 7)) (fv:=fC (.bl true)) (k:=k) (ρ:=[‹.int x›,none,none,‹.str one›,none,‹.lst W›,some (.own (wd ws)),‹.int (i:Int)›]) (al:=zo ws) (q:=.inr w) (d:=.str w) (v:=.bl true) rfl (by simp! only[ix]) rfl rfl (by simp;omega);simp! only[d2028,sh,vP,hb,pk,xS]
   ·rintro ρ' ⟨ws,nd,hl,rfl⟩;rw[cz]at hl;have pt:lA [6] (fB (f2 lg (fL uw (ah (af 6) (aw))) (fC (.int 0)))) [‹.int x›,none,none,‹.str one›,none,‹.lst W›,some (.own (wd ws)),none]=.ok (((ws.length:Int))==0):=by
     simp! only[qS,Gu,DM]
    dsimp only;rw[iI,nN,pt,q5];cases hb:((ws.length:Int)==0)with
    |false=>exact fin ws nd ‹0› λz=>by rw[z]at hb;cases hb
    |true=>
     have pk:=λk:Ks=>vi (i:=6) (fk:=af 3) (fv:=fC (.bl true)) (k:=k) (ρ:=[‹.int x›,none,none,‹.str one›,none,‹.lst W›,some (.own (wd ws)),none]) (al:=zo ws) (q:=.inr one) (d:=.str one) (v:=.bl true) rfl rfl rfl rfl (by simp;omega);rw[if_pos rfl,pk,xS];exact fin (pq ws one) (vJ one nd) (by have:=qX ws one;omega) (El ws one)
  obtain⟨d,ed,fd⟩:=key;have mW:kQ W=some (.lst W):=Dz ‹0›;refine⟨d,?_,fd⟩;rw[<-hT];simp only[K0]at ed;simp! only[hL,g3,h',d3,g26,e1,d78,e2,a1,a2,a3,m1,m2,hW,mW,vq,ed]
theorem zm{b st:Int}{L:List Str}{nm:Str}(h:∀(j:Nat)(w:Str),L[j]?=some w->xR b (st+(j:Int)) w)(hn:xR b (st+(L.length:Int)) nm):∀(j:Nat)(w:Str),(L++[nm])[j]?=some w->xR b (st+(j:Int)) w:=λj w e=>by
 rw[List.getElem?_append]at e;split at e
 ·exact h j w e
 ·rename_i hj
  have:j-L.length=0:=by
   have:=cm e
   simp at this;omega
  rw[this]at e;cases e;rw[show j=L.length by omega];exact hn
theorem yY(dp g:Nat)(hk:∀x b:Int,0<=x->x<2147483700->0<=b->∃d,bi g [.int x,.int b,.int dp]=.ok d/\KG dp d)(x b st:Int)(m r:Nat)(h0:0<=x)(h1:x<2147483700)(hb:0<=b)(hs:0<=st)(hm:m<=8)(hr:r<=8):
  ∃(ks:KL)(qs:List (Str×D)),aU (g+1) [.int x,.int b,.int st,.int m,.int r,.int dp]=.ok (fr ks qs)/\ks.length=m/\qs.length=r/\(∀p∈ks,p.2.gd)/\(∀q∈qs,KG dp q.2)/\∀(j:Nat)(w:Str),(ks.map (·.1)++qs.map (·.1))[j]?=some w->xR b (st+(j:Int)) w:=by
 rw[gS,GW];unfold jd;have rn:kI [.int ((m:Int)+(r:Int))]=some (dM 0 (m+r)):=by
  rw[show((m:Int)+(r:Int))=((m+r:Nat):Int)by omega];exact jH (m+r) ‹0›
 obtain⟨T,hT⟩:∃T:cx,T=ic 7 (ic 6 (bI (cF (ah (fL cC (ah (af 6) (aw))) (ah (fL cC (ah (af 7) (aw))) (aw)))))):=⟨_,rfl⟩
 rw[<-hT];simp! only[Hx,rn];refine dC (Q:=λz=>∃(ks:KL)(qs:List (Str×D)),z=.ok (fr ks qs)/\ks.length=m/\qs.length=r/\(∀p∈ks,p.2.gd)/\(∀q∈qs,KG dp q.2)/\∀(j:Nat)(w:Str),(ks.map (·.1)++qs.map (·.1))[j]?=some w->xR b (st+(j:Int)) w)
  (fun i ρ=>∃ (y:Int) (ks:KL) (qs:List (Str×D)),0<=y/\y < 2147483700/\ks.length=min i m/\qs.length=i - m/\(∀ p∈ks,p.2.gd)/\(∀ q∈qs,KG dp q.2)/\(∀ (j:Nat) (w:Str),(ks.map (·.1)++qs.map (·.1))[j]?=some w->xR b (st+(j:Int)) w) /\
   ρ=[‹.int y›,‹.int b›,‹.int st›,‹.int m›,‹.int r›,‹.int dp›,some (.own (.lst (ks.map kf))),some (.own (.lst (qs.map fld))),none]) ?_ ⟨x,[],[],h0,h1,by simp,by simp,(λ_ h=>nomatch h),(λ_ h=>nomatch h),(λj w h=>by simp at h),rfl⟩ ?_
 ·rintro i d ρ kk hd ⟨y,ps,qs,y0,y1,lp,lq,fp,fq,fn,rfl⟩;have hi:=cm hd;rw[cz]at hi;have hdi:d=.int (i:Int):=by
   rw[gK,Nm,Oa hi]at hd;cases hd;simp
  subst hdi;obtain⟨y',y0',y1',ey⟩:=fW y y0 y1;obtain⟨nm,en,nP⟩:=zT b (st+(i:Int)) hb ‹0›;by_cases h:i<m
  ·have h':decide ((i:Int)<(m:Int))=true:=decide_eq_true ‹0›;obtain⟨c,ek,ck⟩:=sy y' y0' ‹0›;refine⟨_,_,rfl,⟨y',ps++[(nm,c)],qs,y0',by omega,by rw[Np,Nw];omega,by omega,λp hp=>?_,fq,?_,rfl⟩,?_⟩
   ·rcases List.mem_append.mp hp with z|z
    ·exact fp p z
    ·rw[OU]at z;subst z;exact ck
   ·have q0:qs=[]:=List.length_eq_zero_iff.mp ‹0›;subst q0;rw[Nx,Nf]at fn ⊢;rw[N6];exact zm fn (by rw[Nq,lp,OW ‹0›];exact nP)
   ·have ap:fE (ps.map kf) [.tup [.str nm,c.d]]=some ((ps++[(nm,c)]).map kf):=by
     rw[kE (by rw[Nq];omega),N6];rfl
    have sm:=λK:Ks=>kr 6 fE (ah (cF (ah (fR (bv ca 2 7) (ah (af 1) (ah (f2 bS (af 2) (af 8)) (aw)))) (ah (fR (bv cR 1 8) (ah (af 0) (aw))) (aw)))) (aw)) K [‹.int y'›,‹.int b›,‹.int st›,‹.int m›,‹.int r›,‹.int dp›,some (.own (.lst (ps.map kf))),some (.own (.lst (qs.map fld))),‹.int i›] (xs:=ps.map kf) rfl;generalize (ps++[(nm,c)]).map kf=Y at ap ⊢;simp! only[ey,h',sm,en,ek,uS,ap]
  ·have h':decide ((i:Int)<(m:Int))=false:=decide_eq_false ‹0›;obtain⟨k,ek,fk⟩:=hk y' b y0' ‹0› hb;refine⟨_,_,rfl,⟨y',ps,qs++[(nm,k)],y0',by omega,by omega,by rw[Np,Nw];omega,fp,λp hp=>?_,?_,rfl⟩,?_⟩
   ·rcases List.mem_append.mp hp with z|z
    ·exact fq p z
    ·rw[OU]at z;subst z;exact fk
   ·rw[N6,<-Oe];exact zm fn (by rw[Np,Nq,Nq,lp,lq,show min i m+(i-m)=i by omega];exact nP)
   ·have ap:fE (qs.map fld) [.tup [.str nm,k]]=some ((qs++[(nm,k)]).map fld):=by
     rw[kE (by rw[Nq];omega),N6];rfl
    have sm:=λK:Ks=>kr 7 fE (ah (cF (ah (fR (bv ca 2 7) (ah (af 1) (ah (f2 bS (af 2) (af 8)) (aw)))) (ah (fR (bi g) (ah (af 0) (ah (af 1) (ah (af 5) (aw))))) (aw)))) (aw)) K [‹.int y'›,‹.int b›,‹.int st›,‹.int m›,‹.int r›,‹.int dp›,some (.own (.lst (ps.map kf))),some (.own (.lst (qs.map fld))),‹.int i›] (xs:=qs.map fld) rfl;generalize (qs++[(nm,k)]).map fld=Y at ap ⊢;simp! only[ey,h',sm,en,ek,uS,ap]
 ·rintro ρ' ⟨y,ps,qs,y0,y1,lp,lq,fp,fq,fn,rfl⟩;rw[cz]at lp lq;refine⟨ps,qs,?_,by omega,by omega,fp,fq,fn⟩;rw[hT];simp! only[uS]
theorem D7:∀(dp g:Nat),2*dp+1<=g->∀x b:Int,0<=x->x<2147483700->0<=b->∃d,bi g [.int x,.int b,.int dp]=.ok d/\KG dp d:=by
 intro dp
 induction dp with
 |zero=>
  intro g hg x b h0 h1 hb;obtain⟨g,rfl⟩:∃g',g=g'+1:=⟨g-1,by omega⟩
  have d3:=gd 3;obtain⟨c,e,f⟩:=sy (x/3) ‹0› ‹0›;refine⟨c.d,?_,c,f,rfl⟩;rw[eU,pF];unfold ig;have z:(((0:Nat):Int)==0)=true:=rfl;simp! only[z,d3,e]
 |succ dp ih=>
  intro g hg x b h0 h1 hb;obtain⟨g,rfl⟩:∃g',g=g'+1+1:=⟨g-2,by omega⟩
  have g2:=gm 2;have g3:=gm 3;have g12:=gm 12;have d3:=gd 3;have d6:=gd 6;have d18:=gd 18;have d36:=gd 36;have z:(((dp+1:Nat):Int)==0)=false:=by simp;omega
  rw[eU,pF];unfold ig;by_cases h:x%3<2
  ·have h':decide (x%3<2)=true:=decide_eq_true h;obtain⟨c,e,f⟩:=sy (x/3) ‹0› ‹0›;refine⟨c.d,?_,.inl ⟨c,f,rfl⟩⟩;simp! only[z,g3,h',d3,e]
  ·have h':decide (x%3<2)=false:=decide_eq_false h;obtain⟨m,hm,hm8,m1⟩:∃m:Nat,1+x/3%2=(m:Int)/\m<=8/\1<=m:=⟨(1+x/3%2).toNat,by omega,by omega,by omega⟩
   obtain⟨r,hr,hr8⟩:∃m:Nat,x/6%3=(m:Int)/\m<=8:=⟨(x/6%3).toNat,by omega,by omega⟩
   have hd:((dp+1:Nat):Int)-1=(dp:Int):=(by omega);obtain⟨ps,qs,e,l1,l2,F1,F2,_⟩:=yY dp g (ih g ‹0›) (x/3) b (x/36%12) m r ‹0› ‹0› hb ‹0› hm8 hr8;refine⟨.tup [.str "rows",fr ps qs,.bl (x/18%2==1)],?_,.inr ⟨ps,qs,_,rfl,by omega,by omega,F1,by omega,F2⟩⟩;simp! only[z,g3,h',d3,d36,g12,g2,d6,hm,hr,hd,e,d18,HM]
theorem EQ(dp:Nat)(hd:dp<=3)(x b st:Int)(m r:Nat)(h0:0<=x)(h1:x<2147483700)(hb:0<=b)(hs:0<=st)(hm:m<=8)(hr:r<=8):
  ∃(ks:KL)(qs:List (Str×D)),aU 12 [.int x,.int b,.int st,.int m,.int r,.int dp]=.ok (fr ks qs)/\ks.length=m/\qs.length=r/\(∀p∈ks,p.2.gd)/\(∀q∈qs,KG dp q.2)/\∀(j:Nat)(w:Str),(ks.map (·.1)++qs.map (·.1))[j]?=some w->xR b (st+(j:Int)) w:=
 yY dp 11 (D7 dp 11 ‹0›) x b st m r h0 h1 hb hs hm hr
def Kd.has:Kd->D->Prop
 |.num lo hi,d=>∃i,d=.int i/\lo<=i/\i<=hi
 |.wrd ws,d=>∃w,d=.str w/\w∈ws
def zS:KL->List D->Prop
 |[],[]=>True
 |p::k,v::vs=>p.2.has v/\zS k vs
 |_,_=>False
theorem xW{c:Kd}{v:D}(h:c.has v){σ:List Bool}{vs:List D}(s:Sh σ vs):Sh (c.b::σ) (v::vs):=by
 cases c with
 |num lo hi=>obtain⟨i,rfl,_⟩:=h;exact .int i s
 |wrd ws=>obtain⟨w,rfl,_⟩:=h;exact .str w s
theorem zS.sh:∀{k:KL}{vs:List D},zS k vs->Sh (k.map (·.2.b)) vs
 |[],[],_=>.nil
 |_::_,_::_,h=>xW h.1 h.2.sh
theorem zS.app:∀{k:KL}{vs:List D}{k':KL}{vs':List D},zS k vs->zS k' vs'->zS (k++k') (vs++vs')
 |[],[],_,_,_,h=>h
 |_::_,_::_,_,_,a,h=>⟨a.1,a.2.app h⟩
theorem zS.length{k:KL}{vs:List D}(h:zS k vs):vs.length=k.length:=by
 rw[h.sh.length,Nq]
theorem uK{σ:List Bool}{kl:Nat}(h0:σ≠[])(hl:kl=σ.length)(rows:List (List D))(hs:∀r∈rows,Sh σ (r.take kl))(hn:rows.length<64):∃t:List (List D),bv bu 2 4 [.int kl,.lst (rows.map .tup)]=.ok (.tup (t.map .tup))/\wq kl t/\(∀r∈t,r∈rows)/\t.length<=rows.length/\∀r∈rows,∃r'∈t,r'.take kl=r.take kl:=by
 obtain⟨T,hT⟩:∃T:cx,T=(ic 2 (bI (fL cC (ah (gg [none,some 2] (bc (fL e9 (ah (fL o0 (ah (af 2) (aw))) (aw)))) (gN 0) (cX) (f2 rL (af 1) (af 0))) (aw))))):=⟨_,rfl⟩
 rw[ga];unfold bu;rw[<-hT];simp! only[vq];refine dC (Q:=λz=>∃t:List (List D),z=.ok (.tup (t.map .tup))/\wq kl t/\(∀r∈t,r∈rows)/\t.length<=rows.length/\∀r∈rows,∃r'∈t,r'.take kl=r.take kl) (λi ρ=>∃al:List (List Key×D),(al.map (·.1)).Nodup/\al.length<=i/\(∀r∈rows.take i,∃q∈al.map (·.1),q.map bN=r.take kl)/\(∀p∈al,∃r∈rows,p.2=.tup r/\r.take kl=p.1.map bN)/\ρ=[‹.int kl›,‹.lst (rows.map .tup)›,some (.own (eT al)),none]) ?_ ⟨[],NM,M3 _,(λr h=>by rw[NT]at h;cases h),(λ_ h=>nomatch h),rfl⟩ ?_
 ·rintro i d ρ kk hd ⟨al,nd,ll,cv,hp,rfl⟩;have hi:=cm hd;rw[Nq]at hi;rw[Nm,NY hi]at hd;cases hd;have rm:rows[i]∈rows:=OH hi;obtain⟨q,eq⟩:=qH (hs _ rm);have ct:cutD rows[i] none (some (kl:Int))=q.map bN:=by rw[dQ,eq]
  refine⟨_,_,rfl,⟨iA al q (.tup rows[i]),DP _ _ nd,by have:=Du al q (.tup rows[i]);omega,λr hr=>?_,λp h=>?_,rfl⟩,?_⟩
  ·rw[pp];rw[Pb hi]at hr;rcases List.mem_append.mp hr with z|z
   ·obtain⟨q',h1,h2⟩:=cv r z;refine⟨q',?_,h2⟩;split
    ·exact h1
    ·exact MY _ h1
   ·rw[List.mem_singleton.mp z];refine⟨q,?_,eq.symm⟩;split
    ·rename_i h;exact h
    ·exact M4 _ MV
  ·rcases B6 h with z|z
   ·exact hp p z
   ·subst z;exact⟨_,rm,rfl,eq⟩
  ·have pd:=λK:Ks=>D5 (i:=2) (fk:=aP (af 3) (aG) (bp (af 0))) (fv:=af 3) (k:=K) (ρ:=[‹.int kl›,‹.lst (rows.map .tup)›,some (.own (eT al)),‹.tup rows[i]›]) (al:=al) (q:=q) (v:=.tup rows[i]) rfl (by simp! only[ct]) rfl ‹0›;generalize eT (iA al q (.tup rows[i]))=Y at pd ⊢;generalize eT al=Z at pd ⊢;simp! only[pd]
 ·rintro ρ' ⟨al,nd,ll,cv,hp,rfl⟩;rw[Nq]at ll;have hsk:∀p∈al,Sh σ (p.1.map bN):=λp h=>by
   obtain⟨r,hr,_,e⟩:=hp p h;rw[<-e];exact hs r hr
  obtain⟨es,ri⟩:=Ei nd hsk h0 ‹0›;have pm:=fm eF (encK al);have lt:=BR al;generalize iW eF (encK al)=W at es ri pm;have wl:W.length=al.length:=by rw[pm.length_eq,Nq]
  have mem:∀x∈W,∃p∈al,x=.tup (p.1.map bN):=λx hx=>by
   obtain⟨p,h1,h2⟩:=List.mem_map.mp (pm.mem_iff.mp hx);exact⟨p,h1,h2.symm⟩
  obtain⟨vs,v1,v2,v3⟩:=Do (ρ:=[none,‹eT al›]) (g:=gN 0) (C:=cX) (Fe:=f2 rL (af 1) (af 0)) W (λi v=>∃r∈rows,v=.tup r/\W[i]?=some (.tup (r.take kl))) λi d hd=>by
   obtain⟨p,h1,h2⟩:=mem d (Nn hd);obtain⟨r,hr,e1,e2⟩:=hp p h1;have dx:=Ds al p.1;rw[rS nd h1,e1]at dx;refine⟨[‹d›,‹eT al›],.tup r,rfl,rfl,?_,r,hr,rfl,by rw[hd,h2,e2]⟩;subst h2;generalize eT al=Z at dx;simp! only[dx]
  obtain⟨t,rfl⟩:=zN vs λv hv=>by
   obtain⟨i,hi,ei⟩:=N3 hv;obtain⟨r,_,e,_⟩:=v2 i v (by rw[NY hi,ei]);exact⟨r,e⟩
  rw[Nq]at v1;have at_:∀(i:Nat)(h:i<t.length),t[i]∈rows/\W[i]?=some (.tup (t[i].take kl)):=λi h=>by
   obtain⟨r,hr,e,w⟩:=v2 i (.tup t[i]) (by rw[Nm,NY h];rfl);injection e with e;rw[e];exact⟨hr,w⟩
  refine⟨t,?_,?_,λr hr=>?_,by omega,λr hr=>?_⟩
  ·have lc:gg [none,some 2] (bc (fL e9 (ah (fL o0 (ah (af 2) (aw))) (aw)))) (gN 0) (cX) (f2 rL (af 1) (af 0)) [‹.int kl›,‹.lst (rows.map .tup)›,‹eT al›,none]=.ok (.lst (t.map .tup)):=by
    refine eR (ds:=W) ?_ ‹0› v3;generalize eT al=Z at lt;simp! only[lt,es]
   rw[hT];generalize eT al=Z at lc;simp! only[lc]
  ·refine List.pairwise_iff_getElem.mpr λi j hi hj hij=>?_;have a:=(at_ i hi).2;have b:=(at_ j hj).2;rw[NY ‹0›]at a b
   have:=List.pairwise_iff_getElem.mp ri i j ‹0› ‹0› hij
   rw[Option.some.inj a,Option.some.inj b]at this;exact this
  ·obtain⟨i,hi,ei⟩:=N3 hr;rw[<-ei];exact(at_ i hi).1
  ·rw[Nq,N8]at cv;obtain⟨q,hq,eq⟩:=cv r hr;obtain⟨p,hp',rfl⟩:=List.mem_map.mp hq
   have:D.tup (p.1.map bN)∈W:=pm.mem_iff.mpr (List.mem_map.mpr ⟨p,hp',rfl⟩)
   obtain⟨i,hi,ei⟩:=N3 this;have a:=(at_ i ‹0›).2;rw[NY hi,ei]at a;injection a with a;injection a with a;exact⟨t[i]'‹0›,OH _,by rw[<-a,eq]⟩
theorem rG(c:Kd)(hg:c.gd)(g:Nat)(x:Int)(h0:0<=x)(h1:x<2147483700):∃v,aE (g+1) [c.d,.int x]=.ok v/\c.has v:=by
 rw[eD,ga];unfold fO;cases c with
 |num lo hi=>
  have hg:lo<=hi:=hg;have p7:jG (.int x) (.int 7)=some (.int (x^7)):=uR x 7 (by decide) ‹0›;have gm:=λi=>eY (i:=i) (show(0:Int)<hi-lo+1 by omega);have z1:=O7 (x^7) (show hi-lo+1≠0 by omega);have z2:=O8 (x^7) (show 0<hi-lo+1 by omega);refine⟨.int (lo+x^7%(hi-lo+1)),?_,_,rfl,by omega,by omega⟩;simp! only[Kd.d,rE,p7,gm]
 |wrd ws=>
  obtain⟨wn,_⟩:=(show ws≠[]/\ws.length<=100 from hg)
  have ul:0<ws.length:=List.length_pos_iff.mpr wn;have q1:=O7 x (show(ws.length:Int)≠0 by omega);have q2:=O8 x (show(0:Int)<(ws.length:Int)by omega);have gm:=λi=>eY (i:=i) (show(0:Int)<(ws.length:Int)by omega);have ix:aA (.tup (ws.map .str)) (.int (x%(ws.length:Int)))=some (.str (ws[(x%(ws.length:Int)).toNat]'‹0›)):=by
   rw[Jg,uV,mz q1 q2];rfl
  refine⟨_,?_,ws[(x%(ws.length:Int)).toNat]'‹0›,rfl,OH _⟩;simp! only[Kd.d,vG,vh,Nq,gm,ix]
theorem BC(n g:Nat)(hv:∀(d:D)(x:Int),KG n d->0<=x->x<2147483700->∃v,aE (g+1) [d,.int x]=.ok v/\AL (2*n) v)(ks:KL)(qs:List (Str×D))(k8:ks.length<=8)(q8:qs.length<=8)(hk:∀p∈ks,p.2.gd)(hq:∀q∈qs,KG n q.2)(A B:List D)(em:A++B=(ks.map toD++qs).map fld)(mn hd tl:Int)(h0:0<=hd)(h1:hd<2147483700)(t0:0<=tl)(t1:tl<2147483700):
  ∃vs:List D,aR (g+2) [.tup [.tup A,.tup B],.int mn,.int hd,.int tl]=.ok (.tup vs)/\vs.length=ks.length+qs.length/\zS ks (vs.take ks.length)/\∀v∈vs,AL (2*n) v:=by
 rw[iy,yz];unfold ku;have fl:(ks.map toD++qs).length=ks.length+qs.length:=by rw[Np,Nq]
 have ad:=e6 A B (by have:=congrArg List.length em;rw[Np,Nq]at this;omega);rw[em]at ad;obtain⟨T,hT⟩:∃T:cx,T=(ic 4 (bI (fL cC (ah (af 4) (aw))))):=⟨_,rfl⟩
 rw[<-hT];simp! only[Hx,ad];refine dC (Q:=λz=>∃vs:List D,z=.ok (.tup vs)/\vs.length=ks.length+qs.length/\zS ks (vs.take ks.length)/\∀v∈vs,AL (2*n) v)
  (λi ρ=>∃(y z:Int)(ka va:List D),0<=y/\y<2147483700/\0<=z/\z<2147483700/\zS (ks.take i) ka/\va.length=i-ks.length/\(∀v∈va,AL (2*n) v)/\ρ=[‹.tup [.tup A,.tup B]›,‹.int mn›,‹.int y›,‹.int z›,some (.own (.lst (ka++va))),none,none]) ?_ ⟨hd,tl,[],[],h0,h1,t0,t1,trivial,by simp,(λ_ h=>nomatch h),rfl⟩ ?_
 ·rintro i d ρ kk hd ⟨y,z,ka,va,y0,y1,z0,z1,hka,lva,hva,rfl⟩;have hi:=cm hd;rw[Nq,fl]at hi;rw[Nm,NY ‹0›]at hd;cases hd;have kal:ka.length=min i ks.length:=by rw[hka.length,Nh]
  obtain⟨y',y0',y1',ey⟩:=fW y y0 y1;obtain⟨z',z0',z1',ez⟩:=fW z z0 z1;have step:∀x:Int,0<=x->x<2147483700->∃v,aE (g+1) [((ks.map toD++qs)[i]'‹0›).2,.int x]=.ok v/\∃ka' va',ka++va++[v]=ka'++va'/\zS (ks.take (i+1)) ka'/\va'.length=i+1-ks.length/\∀v∈va',AL (2*n) v:=λx x0 x1=>by
   by_cases h:i<ks.length
   ·have e:(ks.map toD++qs)[i]'‹0›=toD ks[i]:=(by rw[List.getElem_append_left (by rw[Nq];exact h),List.getElem_map]);obtain⟨v,ev,sv⟩:=rG ks[i].2 (hk _ (OH h)) g x x0 x1;have v0:va=[]:=List.length_eq_zero_iff.mp ‹0›;subst v0;refine⟨v,by rw[e];exact ev,ka++[v],[],by simp,?_,by simp;omega,λ_ h=>nomatch h⟩;rw[Pb h];exact hka.app ⟨sv,trivial⟩
   ·have e:(ks.map toD++qs)[i]'‹0›=qs[i-ks.length]'‹0›:=(by rw[List.getElem_append_right (by rw[Nq];omega)];simp);obtain⟨v,ev,sv⟩:=hv _ x (hq _ (OH (show i-ks.length<qs.length by omega))) x0 x1;refine⟨v,by rw[e];exact ev,ka,va++[v],by rw[Oe],?_,by rw[Np,Nw];omega,λw hw=>?_⟩
    ·rw[OT ‹0›]at hka ⊢;exact hka
    ·rcases List.mem_append.mp hw with z|z
     ·exact hva w z
     ·rw[List.mem_singleton.mp z];exact sv
  have gt:gT 2 (og [5,6]) (fld ((ks.map toD++qs)[i]'‹0›)) [‹.tup [.tup A,.tup B]›,‹.int mn›,‹.int y›,‹.int z›,some (.own (.lst (ka++va))),none,none]=some [‹.tup [.tup A,.tup B]›,‹.int mn›,‹.int y›,‹.int z›,some (.own (.lst (ka++va))),‹.str ((ks.map toD++qs)[i]'‹0›).1›,‹((ks.map toD++qs)[i]'‹0›).2›]:=rfl;have alen:(ka++va).length<1000:=by rw[Np];omega
  generalize (ks.map toD++qs)[i]'‹0›=p at step gt;cases hb:decide (((ka++va).length:Int)<mn)with
  |true=>
   obtain⟨v,ev,ka',va',e1,e2,e3,e4⟩:=step y' y0' ‹0›;refine⟨_,_,gt,⟨y',z,ka',va',y0',by omega,z0,z1,e2,e3,e4,rfl⟩,?_⟩;have ap:fE (ka++va) [v]=some (ka'++va'):=(by rw[kE ‹0›,e1]);have sm:=λK:Ks=>kr 4 fE (ah (fR (aE (g+1)) (ah (af 6) (ah (af 2) (aw)))) (aw)) K [‹.tup [.tup A,.tup B]›,‹.int mn›,‹.int y'›,‹.int z›,some (.own (.lst (ka++va))),‹.str p.1›,‹p.2›] (xs:=ka++va) rfl;generalize ka++va=A at hb ap sm alen;generalize ka'++va'=B at ap;simp! only[qS,Gu,hb,ey,sm,ev,ap]
  |false=>
   obtain⟨v,ev,ka',va',e1,e2,e3,e4⟩:=step z' z0' ‹0›;refine⟨_,_,gt,⟨y,z',ka',va',y0,y1,z0',by omega,e2,e3,e4,rfl⟩,?_⟩;have ap:fE (ka++va) [v]=some (ka'++va'):=(by rw[kE ‹0›,e1]);have sm:=λK:Ks=>kr 4 fE (ah (fR (aE (g+1)) (ah (af 6) (ah (af 3) (aw)))) (aw)) K [‹.tup [.tup A,.tup B]›,‹.int mn›,‹.int y›,‹.int z'›,some (.own (.lst (ka++va))),‹.str p.1›,‹p.2›] (xs:=ka++va) rfl;generalize ka++va=A at hb ap sm alen;generalize ka'++va'=B at ap;simp! only[qS,Gu,hb,ez,sm,ev,ap]
 ·rintro ρ' ⟨y,z,ka,va,y0,y1,z0,z1,hka,lva,hva,rfl⟩;rw[Nq,fl]at hka lva;rw[OT ‹0›]at hka;have kal:ka.length=ks.length:=hka.length;refine⟨ka++va,?_,by rw[Np];omega,by rw[<-kal,List.take_left];exact hka,λv hv=>?_⟩
  ·rw[hT];generalize ka++va=A;simp! only[]
  ·rcases List.mem_append.mp hv with w|w
   ·exact(t6 hka.sh v w).of0 _
   ·exact hva v w
theorem DJ(n g:Nat)(hv:∀(d:D)(x:Int),KG n d->0<=x->x<2147483700->∃v,aE (g+1) [d,.int x]=.ok v/\AL (2*n) v)(ks:KL)(qs:List (Str×D))(k1:1<=ks.length)(k8:ks.length<=8)(q8:qs.length<=8)(hk:∀p∈ks,p.2.gd)(hq:∀q∈qs,KG n q.2)(x:Int)(m:Nat)(h0:0<=x)(h1:x<2147483700)(hm:m<=8):
  ∃t:List (List D),aV (g+3) [fr ks qs,.int x,.int m]=.ok (.tup (t.map .tup))/\wq ks.length t/\t.length<=8/\∀r∈t,r.length=ks.length+qs.length/\zS ks (r.take ks.length)/\∀v∈r,AL (2*n) v:=by
 have rn:=jH m ‹0›;obtain⟨T,hT⟩:∃T:cx,T=(ic 3 (bI (fR (bv bu 2 4) (ah (fL fw (ah (f2 aA (af 0) (fC (.int 0))) (aw))) (ah (af 3) (aw)))))):=⟨_,rfl⟩
 rw[gJ,pF];unfold ja;rw[<-hT];simp! only[Hx,rn];refine dC (Q:=λz=>∃t:List (List D),z=.ok (.tup (t.map .tup))/\wq ks.length t/\t.length<=8/\∀r∈t,r.length=ks.length+qs.length/\zS ks (r.take ks.length)/\∀v∈r,AL (2*n) v)
  (λi ρ=>∃(y:Int)(rs:List (List D)),0<=y/\y<2147483700/\rs.length=i/\(∀r∈rs,r.length=ks.length+qs.length/\zS ks (r.take ks.length)/\∀v∈r,AL (2*n) v)/\ρ=[‹fr ks qs›,‹.int y›,‹.int m›,some (.own (.lst (rs.map .tup))),none]) ?_ ⟨x,[],h0,h1,rfl,(λ_ h=>nomatch h),rfl⟩ ?_
 ·rintro i d ρ kk hd ⟨y,rs,y0,y1,rl,hr,rfl⟩;have hi:=cm hd;rw[cz]at hi;obtain⟨y',y0',y1',ey⟩:=fW y y0 y1;obtain⟨vs,ev,v1,v2,v3⟩:=BC n g hv ks qs k8 q8 hk hq (ks.map kf) (qs.map fld) (by rw[N6,yA]) 0 0 y' (by decide) (by decide) y0' ‹0›;refine⟨_,_,rfl,⟨y',rs++[vs],y0',by omega,by rw[Np,Nw,rl],λr h=>?_,rfl⟩,?_⟩
  ·rcases List.mem_append.mp h with z|z
   ·exact hr r z
   ·rw[List.mem_singleton.mp z];exact⟨v1,v2,v3⟩
  ·have ap:fE (rs.map .tup) [.tup vs]=some ((rs++[vs]).map .tup):=by
    rw[kE (by rw[Nq];omega),N6];rfl
   have sm:=λK:Ks=>kr 3 fE (ah (fR (aR (g+2)) (ah (af 0) (ah (fC (.int 0)) (ah (fC (.int 0)) (ah (af 1) (aw)))))) (aw)) K [‹fr ks qs›,‹.int y'›,‹.int m›,some (.own (.lst (rs.map .tup))),‹d›] (xs:=rs.map .tup) rfl;generalize (rs++[vs]).map D.tup=Y at ap ⊢;generalize rs.map D.tup=Z at ap sm ⊢;simp! only[ey,sm,ev,ap]
 ·rintro ρ' ⟨y,rs,y0,y1,rl,hr,rfl⟩;rw[cz]at rl;obtain⟨t,et,ri,tm,tl,_⟩:=uK (σ:=ks.map (·.2.b)) (kl:=ks.length) (λz=>by have:=congrArg List.length z;rw[Nq,NF]at this;omega) (by rw[Nq]) rs (λr h=>(hr r h).2.1.sh) ‹0›;refine⟨t,?_,ri,by omega,λr h=>hr r (tm r h)⟩;rw[hT];simp! only[Nq,et]
theorem Cw:∀(n g:Nat),3*n+1<=g->∀(d:D)(x:Int),KG n d->0<=x->x<2147483700->∃v,aE g [d,.int x]=.ok v/\AL (2*n) v:=by
 intro n
 induction n with
 |zero=>
  intro g hg d x hd h0 h1;obtain⟨g,rfl⟩:∃g',g=g'+1:=⟨g-1,by omega⟩
  obtain⟨c,cg,rfl⟩:=hd;obtain⟨v,ev,sv⟩:=rG c cg g x h0 h1;exact⟨v,ev,t6 (xW sv .nil) v MV⟩
 |succ n ih=>
  intro g hg d x hd h0 h1;obtain⟨g,rfl⟩:∃g',g=g'+3+1:=⟨g-4,by omega⟩
  rcases hd with⟨c,cg,rfl⟩|⟨ks,qs,b,rfl,k1,k8,hk,q8,hq⟩
  ·obtain⟨v,ev,sv⟩:=rG c cg (g+3) x h0 h1;exact⟨v,ev,(t6 (xW sv .nil) v MV).of0 _⟩
  ·have d3:=gd 3;have g3:=gm 3;obtain⟨m,hm,em⟩:∃m:Nat,m<=3/\nM [.int (x%3),.int (if b then 1 else 0)]=some (.int (m:Int)):=by
    refine⟨(if(if b then(1:Int)else 0)>x%3 then(if b then(1:Int)else 0)else x%3).toNat,?_,?_⟩
    ·cases b<;>simp<;>split<;>omega
    ·rw[iU];congr 2;cases b<;>simp<;>split<;>omega
   obtain⟨t,ev,_,tl,ht⟩:=DJ n g (ih (g+1) ‹0›) ks qs k1 k8 q8 hk hq (x/3) m ‹0› ‹0› ‹0›;refine⟨_,?_,show AL (2*n+2) (.tup (t.map .tup))from AL.tup (by rw[Nq];omega) λv hv=>by
    obtain⟨r,h1,rfl⟩:=List.mem_map.mp hv;obtain⟨w1,_,w3⟩:=ht r h1;exact AL.tup ‹0› w3⟩
   rw[eD,ga];unfold fO;simp! only[GI,ED,d3,g3,C7,em,ev]
theorem jT(n:Nat)(hn:n<=2)(ks:KL)(qs:List (Str×D))(k8:ks.length<=8)(q8:qs.length<=8)(hk:∀p∈ks,p.2.gd)(hq:∀q∈qs,KG n q.2)(A:List D)(em:A=(ks.map toD++qs).map fld)(x:Int)(h0:0<=x)(h1:x<2147483700):
  ∃vs:List D,bv bQ 2 2 [.tup A,.int x]=.ok (.tup vs)/\vs.length=ks.length+qs.length/\zS ks (vs.take ks.length)/\∀v∈vs,AL 4 v:=by
 obtain⟨vs,ev,v1,v2,v3⟩:=BC n 10 (Cw n 11 ‹0›) ks qs k8 q8 hk hq A [] (by rw[Nf];exact em) 0 0 x (by decide) (by decide) h0 h1;have ev:aR 12 [.tup [.tup A,.tup []],.int 0,.int 0,.int x]=.ok (.tup vs):=ev;refine⟨vs,?_,v1,v2,λv h=>AL.le ‹0› (v3 v h)⟩;rw[ga];unfold bQ;simp! only[MK,uS,ev]
theorem zip_get:∀(xs:List D)(i:Nat)(d:D),(kA xs xs)[i]?=some d->∃x∈xs,d=.tup [x,x]
 |x::xs,0,d,h=>by cases h;exact⟨x,MV,rfl⟩
 |x::xs,i+1,d,h=>by
  obtain⟨y,h1,h2⟩:=zip_get xs i d h;exact⟨y,MX _ h1,h2⟩
theorem yR:∀(n g:Nat)(d:D),n<g->AL n d->bx g [d,d]=.ok (.bl true):=by
 intro n
 induction n with
 |zero=>
  intro g d hg hd;obtain⟨g,rfl⟩:∃g',g=g'+1:=⟨g-1,by omega⟩
  show bv (dP (bx g)) 2 4 [d,d]=_;rw[ga];unfold dP;rcases hd with⟨i,rfl⟩|⟨x,rfl⟩
  ·have t2:nU "str" (.int i)=some (.bl false):=rfl;have t3:nU "int" (.int i)=some (.bl true):=rfl;have t4:nU "bool" (.int i)=some (.bl false):=rfl;simp! only[t2,t3,t4,beq_self_eq_true,N0]
  ·have t2:nU "str" (.str x)=some (.bl true):=rfl;simp! only[t2,beq_self_eq_true,N0]
 |succ n ih=>
  intro g d hg hd;obtain⟨g,rfl⟩:∃g',g=g'+1:=⟨g-1,by omega⟩
  show bv (dP (bx g)) 2 4 [d,d]=_;rw[ga];unfold dP;rcases hd with(⟨i,rfl⟩|⟨x,rfl⟩)|⟨ds,rfl,dl,hds⟩
  ·have t2:nU "str" (.int i)=some (.bl false):=rfl;have t3:nU "int" (.int i)=some (.bl true):=rfl;have t4:nU "bool" (.int i)=some (.bl false):=rfl;simp! only[t2,t3,t4,beq_self_eq_true,N0]
  ·have t2:nU "str" (.str x)=some (.bl true):=rfl;simp! only[t2,beq_self_eq_true,N0]
  ·have t1:nU "tuple" (.tup ds)=some (.bl true):=rfl;have t2:nU "str" (.tup ds)=some (.bl false):=rfl;have t3:nU "int" (.tup ds)=some (.bl false):=rfl;have t4:nU "bool" (.tup ds)=some (.bl false):=rfl;simp! only[t1,t2,t3,t4,beq_self_eq_true,uE];refine dC (Q:=λz=>z=.ok (.bl true)) (λi ρ=>ρ=[‹.tup ds›,‹.tup ds›,none,none]) ?_ rfl ?_
   ·rintro i d ρ kk hd rfl;obtain⟨x,hx,rfl⟩:=zip_get ds i d hd;have ea:=ih g x ‹0› (hds x hx);refine⟨[‹.tup ds›,‹.tup ds›,‹x›,‹x›],_,rfl,rfl,?_⟩;simp! only[ea]
   ·rintro ρ' rfl;rfl
noncomputable def kq(f:List D):List Key:=(keysOf f).getD []
theorem IB(q:List Key):kq (q.map bN)=q:=by unfold kq;rw[cA];rfl
theorem wU{σ:List Bool}{f:List D}(h:Sh σ f):(kq f).map bN=f:=by
 obtain⟨q,e⟩:=qH h;rw[e,IB]
theorem yh{σ:List Bool}{f f':List D}(h:Sh σ f)(h':Sh σ f')(e:kq f=kq f'):f=f':=by
 rw[<-wU h,e,wU h']
theorem zr:∀(ps al:List (List Key×D)),((al++ps).map (·.1)).Nodup->ps.foldl (λal p=>iA al p.1 p.2) al=al++ps
 |[],al,_=>by rw[Nf];rfl
 |p::ps,al,h=>by
  rw[Oy];have e:iA al p.1 p.2=al++[p]:=by
   unfold iA;rw[if_neg];intro z;obtain⟨a,ha,e⟩:=List.any_eq_true.mp z;rw[N6,Ny]at h;exact(List.nodup_append.mp h).2.2 a.1 (List.mem_map.mpr ⟨a,ha,rfl⟩) p.1 MV (of_decide_eq_true e)
  rw[e,zr ps (al++[p]) (by rw[Oe];exact h),Oe];rfl
theorem xi:∀ps:List (List Key×D),j3 (ps.map xG)=some ps
 |[]=>rfl
 |p::ps=>by
  show(xK (xG p)).bind (λq=>(j3 (ps.map xG)).map (q::·))=_;rw[xi ps];show((jq (.tup (p.1.map bN))).map _).bind _=_;rw[qU];rfl
variable{τ:List Bool}{m:Nat}
theorem ye{T:List (List D)}(hs:∀r∈T,Sh τ (r.take m))(h:wq m T):T.Pairwise λa b=>a.take m≠b.take m:=
 List.Pairwise.imp_of_mem (λ{a b} ha hb e z=>by rw[z,kc (hs b hb)]at e;cases e) h
structure So(τ:List Bool)(m:Nat)(L:List (List D)):Prop where
 t0:τ≠[]
 hm:m=τ.length
 sh:∀r∈L,Sh τ (r.take m)
 pw:L.Pairwise λa b=>a.take m≠b.take m
 ln:L.length<64
theorem So.prog{L T:List (List D)}(h:So τ m L)(r:wq m T)(p:T.Perm L):bv ip 2 2 [.int m,.lst (L.map .tup)]=.ok (.tup (T.map .tup)):=by
 have k:Im m (L.map .tup):=⟨by rw[Nq];exact h.ln,τ,h.t0,λx hx=>by
  obtain⟨r,hr,rfl⟩:=List.mem_map.mp hx;exact⟨r,rfl,h.sh r hr⟩,List.pairwise_map.mpr h.pw⟩
 have so:iW (sR m) (L.map .tup)=T.map .tup:=by
  refine oB (σ:=τ) (λx hx=>?_) ?_ ?_ (p.map _)
  ·obtain⟨r,hr,rfl⟩:=List.mem_map.mp hx;exact h.sh r hr
  ·exact List.pairwise_map.mpr h.pw
  ·exact List.pairwise_map.mpr r
 have e:pG (.lst (L.map .tup)) (.int m)=some (.lst (T.map .tup)):=by
  show(if(0:Int)<=(m:Int)then qO ((m:Int)).toNat (L.map .tup)else none)=_;rw[if_pos ‹0›,Nr];unfold qO;rw[if_pos k,so]
 rw[ga];unfold ip;simp! only[e]
theorem GY(xs:List D):zb [.lst xs]=some (.lst xs):=nr rfl
theorem So.srt{L:List (List D)}(h:So τ m L):∃T:List (List D),wq m T/\T.Perm L:=
 ⟨iW (λr=>r.take m) L,mI (key:=λr:List D=>r.take m) (σ:=τ) h.sh h.pw,fm _ _⟩
theorem DA{A B:List (List D)}(hA:∀r∈A,Sh τ (r.take m))(a:wq m A)(b:wq m B)(p:B.Perm A):A=B:=by
 have h1:=oB (key:=λr:List D=>r.take m) (σ:=τ) hA (ye hA a) a (List.Perm.refl _);have h2:=oB (key:=λr:List D=>r.take m) (σ:=τ) hA (ye hA a) b p;exact h1.symm.trans h2
def mn(i j:Int):Int:=if j<i then j else i
def Kd.srt:Kd->Str
 |.num _ _=>"number"
 |.wrd _=>"word"
def Kd.ok:Kd->Prop
 |.num _ _=>True
 |.wrd ws=>ws.length<=100
def Kd.bad:Kd->Bool
 |.num a b=>decide (b<a)
 |.wrd ws=>ws.isEmpty
def Hi:Kd->Kd->Kd
 |.num a b,.num x y=>.num (mx a x) (mn b y)
 |.wrd ws,.wrd us=>.wrd (ws.filter λw=>us.contains w)
 |k,_=>k
theorem E7:(("number":Str)==("word":Str))=false:=by decide +kernel
theorem D8{k s:Kd}(h:k.srt=s.srt)(hk:k.ok):bv dE 2 2 [k.d,s.d]=.ok (Hi k s).d:=by
 rw[ga];unfold dE;cases k with
 |num a b=>
  cases s with
  |num x y=>
   simp! only[Kd.d,rE,HM];rfl
  |wrd us=>exact absurd (show(("number":Str))="word"from h) (by decide +kernel)
 |wrd ws=>
  cases s with
  |num x y=>exact absurd (show(("word":Str))="number"from h) (by decide +kernel)
  |wrd us=>
   have hk:ws.length<=100:=hk;have f0:gg [none,some 1] (bc (f2 aA (af 0) (fC (.int 1)))) (gN 0) (fB (f2 AV (af 0) (f2 aA (af 1) (fC (.int 1))))) (af 0) [‹.tup [.str "word",.tup (ws.map .str)]›,‹.tup [.str "word",.tup (us.map .str)]›]=.ok (.lst ((ws.filter λw=>us.contains w).map .str)):=by
    refine eR (ds:=ws.map .str) (by simp! only[]) (by rw[Nq];omega) ?_;refine jZ D.str (λw=>us.contains w) D.str ws λw _=>⟨_,rfl,?_,rfl⟩
    simp! only[zQ]
   simp! only[Kd.d,vG,f0,uS];rfl
abbrev ZP:=(Str×Kd)×(Str×Kd)
structure Mt(c e:Kd):Prop where
 o1:c.ok
 o2:e.ok
 s:c.srt=e.srt
 b:(Hi c e).bad=false
 b':(Hi e c).bad=false
theorem Mt.gd{c e:Kd}(h:Mt c e):(Hi c e).gd:=by
 have b:=h.b;have o:=h.o1;have s:=h.s;cases c with
 |num x y=>cases e with
  |num u v=>
   have b:decide (mn y v<mx x u)=false:=b;show mx x u<=mn y v
   have:=of_decide_eq_false b
   omega
  |wrd us=>cases s
 |wrd ws=>cases e with
  |num u v=>cases s
  |wrd us=>
   refine⟨λz=>?_,MS (Ph _ _) o⟩;have b:(ws.filter λw=>us.contains w).isEmpty=false:=b;rw[z]at b;cases b
theorem Mt.gds{c e:Kd}(h:Mt c e):c.gd/\e.gd/\(Hi c e).b=c.b/\e.b=c.b:=by
 have b:=h.b;have o:=h.o1;have o2:=h.o2;have s:=h.s;cases c with
 |num x y=>cases e with
  |num u v=>
   have b:decide (mn y v<mx x u)=false:=b
   have:=of_decide_eq_false b
   unfold mn mx at this;refine⟨show x<=y from ?_,show u<=v from ?_,rfl,rfl⟩
   ·split at this<;>split at this<;>omega
   ·split at this<;>split at this<;>omega
  |wrd us=>cases s
 |wrd ws=>cases e with
  |num u v=>cases s
  |wrd us=>
   have b:(ws.filter λw=>us.contains w).isEmpty=false:=b;refine⟨⟨λz=>?_,o⟩,⟨λz=>?_,o2⟩,rfl,rfl⟩
   ·rw[z]at b;cases b
   ·have:(ws.filter λw=>us.contains w)=[]:=List.filter_eq_nil_iff.mpr λw _=>by rw[z];simp
    rw[this]at b;cases b
def bk(L:List ZP):KL:=L.map λz=>(z.1.1,Hi z.1.2 z.2.2)
abbrev k1(L:List ZP):KL:=L.map (·.1)
abbrev k2(L:List ZP):KL:=L.map (·.2)
abbrev Ok(L:List ZP):Prop:=∀z∈L,z.1.1=z.2.1/\Mt z.1.2 z.2.2
theorem zM{L:List ZP}(h:Ok L):∀p∈bk L,p.2.gd:=λp hp=>by
 obtain⟨z,hz,rfl⟩:=List.mem_map.mp hp;exact(h z hz).2.gd
theorem C8{α:Type}(f g:α->D)(t:List D):∀L:List α,kA (L.map f) (L.map g++t)=L.map λz=>.tup [f z,g z]
 |[]=>by cases t<;>rfl
 |a::L=>by
  rw[Ny,Ny,Ny,<-C8 f g t L];rfl
theorem Ih{L:List ZP}(h:Ok L):∀p∈k1 L,p.2.gd:=λp hp=>by
 obtain⟨z,hz,rfl⟩:=List.mem_map.mp hp;exact(h z hz).2.gds.1
theorem IH{L:List ZP}(h:Ok L):∀p∈k2 L,p.2.gd:=λp hp=>by
 obtain⟨z,hz,rfl⟩:=List.mem_map.mp hp;exact(h z hz).2.gds.2.1
abbrev so(L:List ZP):List Bool:=(bk L).map (·.2.b)
theorem MB{L:List ZP}(h:Ok L):(k1 L).map (·.2.b)=so L:=by
 unfold so bk;rw[OL,OL];exact N5 λz hz=>(h z hz).2.gds.2.2.1.symm
theorem Mr{L:List ZP}(h:Ok L):(k2 L).map (·.2.b)=so L:=by
 unfold so bk;rw[OL,OL];exact N5 λz hz=>by
  obtain⟨_,_,a,b⟩:=(h z hz).2.gds;exact b.trans a.symm
theorem vQ(L:List ZP):(so L).length=L.length:=by unfold so bk;rw[Nq,Nq]
theorem v8{L:List ZP}(h:Ok L)(l8:L.length<=8)(t:KL)(a b:D):bv bR 2 5 [.tup [.tup ((k1 L).map kf),a],.tup [.tup ((k2 L++t).map kf),b]]=.ok (.tup ((bk L).map kf)):=by
 have ze:yx [.tup ((k1 L).map kf),.tup ((k2 L++t).map kf)]=some (L.map λz=>.tup [kf z.1,kf z.2]):=by
  show some (kA ((k1 L).map kf) ((k2 L++t).map kf))=_;rw[OL,N6,OL,C8];rfl
 obtain⟨T,hT⟩:∃T:cx,T=(ic 2 (bI (fL cC (ah (af 2) (aw))))):=⟨_,rfl⟩
 rw[ga];unfold bR;rw[<-hT];simp! only[Hx,ze];generalize hA:D.tup [.tup ((k1 L).map kf),a]=A;generalize hB:D.tup [.tup ((k2 L++t).map kf),b]=B;refine dC (Q:=λz=>z=.ok (.tup ((bk L).map kf))) (λi ρ=>ρ=[‹A›,‹B›,some (.own (.lst ((bk (L.take i)).map kf))),none,none]) ?_ rfl ?_
 ·rintro i d ρ kk hd rfl;have hi:=cm hd;rw[Nq]at hi;rw[Nm,NY hi]at hd;cases hd;obtain⟨_,mt⟩:=h L[i] (OH hi);have ib:=D8 mt.s mt.o1;have ap:fE ((bk (L.take i)).map kf) [.tup [.str L[i].1.1,(Hi L[i].1.2 L[i].2.2).d]]=some ((bk (L.take (i+1))).map kf):=by
   unfold bk;rw[kE (by rw[Nq,Nq,Nh];omega),Pb hi,N6,N6];rfl
  refine⟨[‹A›,‹B›,some (.own (.lst ((bk (L.take i)).map kf))),‹kf L[i].1›,‹kf L[i].2›],_,rfl,rfl,?_⟩;have sm:=λK:Ks=>kr 2 fE (ah (cF (ah (f2 aA (af 3) (fC (.int 0))) (ah (fR (bv dE 2 2) (ah (f2 aA (af 3) (fC (.int 1))) (ah (f2 aA (af 4) (fC (.int 1))) (aw)))) (aw)))) (aw)) K [‹A›,‹B›,some (.own (.lst ((bk (L.take i)).map kf))),‹kf L[i].1›,‹kf L[i].2›] (xs:=(bk (L.take i)).map kf) rfl;have j0:aA (kf L[i].1) (.int 0)=some (.str L[i].1.1):=rfl;have j1:aA (kf L[i].1) (.int 1)=some L[i].1.2.d:=rfl;have j2:aA (kf L[i].2) (.int 1)=some L[i].2.2.d:=rfl;generalize (bk (L.take (i+1))).map kf=Y at ap ⊢;generalize (bk (L.take i)).map kf=Z at ap sm ⊢;simp! only[sm,j0,j1,j2,ib,uS,ap]
 ·rintro ρ' rfl;rw[Nq,OT (M3 _),hT];simp! only[]
theorem yB(x:Int):∃us:List Str,us≠[]/\us.length<=8/\bv dr 1 6 [.int x]=.ok (.lst (us.map .str)):=by
 have g26:=gm 26;have d26:=gd 26;have LL:(("abcdefghijklmnopqrstuvwxyz":Str)).length=26:=by decide +kernel
 generalize hL:("abcdefghijklmnopqrstuvwxyz":Str)=L at LL;obtain⟨one,ho,e1⟩:=qy L ‹0› (x%26) ‹0› ‹0›;obtain⟨oth,hq,e2⟩:=qy L ‹0› (x/26%26) ‹0› ‹0›;have a1:=ia one oth ‹0› ‹0›;have a2:=ia oth one ‹0› ‹0›;have a3:=ia one one ‹0› ‹0›;have m1:=BU (x:=one) (n:=8) (by decide) (by decide) ‹0›;have m2:=BU (x:=oth) (n:=3) (by decide) (by decide) ‹0›;generalize hW:[D.str "",.str one,.str oth,.str (one++oth),.str (oth++one),.str (jB one 8),.str (one++one),.str (jB oth 3)]=W;have W8:W.length=8:=by rw[<-hW];rfl
 have Ws:∀d∈W,∃w:Str,d=.str w:=by
  rw[<-hW];intro d hd;simp only[Oh,Pa,or_false]at hd;rcases hd with rfl|rfl|rfl|rfl|rfl|rfl|rfl|rfl<;>exact⟨_,rfl⟩
 have mW:kQ W=some (.lst W):=Dz ‹0›;obtain⟨T,hT⟩:∃T:cx,T=(ic 4 (bI (fL e9 (ah (fL lV (ah (af 4) (aw))) (aw))))):=⟨_,rfl⟩
 rw[pC];unfold dr;rw[<-hT];simp! only[hL,g26,e1,d26,e2,vq,a1,a2,a3,m1,m2,hW,mW];refine dC (Q:=λz=>∃us:List Str,us≠[]/\us.length<=8/\z=.ok (.lst (us.map .str))) (λi ρ=>∃ws:List Str,ws.Nodup/\ws.length<=i/\(0<i->ws≠[])/\ρ=[none,none,‹.str one›,‹.str oth›,some (.own (wd ws)),none]) ?_ ⟨[],NM,M3 _,λh=>by omega,rfl⟩ ?_
 ·rintro i d ρ kk hd ⟨ws,nd,hl,hn,rfl⟩;have hi:=cm hd;obtain⟨w,rfl⟩:=Ws d (Nn hd);have pn:pq ws w≠[]:=by
   unfold pq;split
   ·rename_i h;intro z;rw[z]at h;simp at h
   ·simp
  refine⟨_,_,rfl,⟨pq ws w,vJ w nd,by have:=qX ws w;omega,λ_=>pn,rfl⟩,?_⟩;have pk:=λk:Ks=>vi (i:=4) (fk:=af 5) (fv:=fC (.bl true)) (k:=k) (ρ:=[none,none,‹.str one›,‹.str oth›,some (.own (wd ws)),‹.str w›]) (al:=zo ws) (q:=.inr w) (d:=.str w) (v:=.bl true) rfl rfl rfl rfl (by simp;omega);simp! only[pk,xS]
 ·rintro ρ' ⟨ws,nd,hl,hn,rfl⟩;rw[W8]at hl hn;obtain⟨us,eu,pu⟩:=Fp ws nd ‹0›;refine⟨us,λz=>hn (by decide) (by rw[z]at pu;exact pu.symm.eq_nil),by rw[pu.length_eq];exact hl,?_⟩;rw[hT];simp! only[xL,eu]
theorem wF:∀(us:List Str)(i:Nat),kT i (us.map .str)=(us.zipIdx i).map λp=>.tup [.int (p.2:Int),.str p.1]
 |[],_=>rfl
 |u::us,i=>by
  rw[Ny,kT,wF us (i+1),Og,Ny]
theorem Mt.swap{c e:Kd}(h:Mt c e):Mt e c:=⟨h.o2,h.o1,h.s.symm,h.b',h.b⟩
theorem Ga{lo w f g:Int}(h1:0<=f)(h2:f<=w)(h3:0<=g):Mt (.num lo (lo+w)) (.num (lo+f) (lo+f+g)):=by
 refine⟨trivial,trivial,rfl,?_,?_⟩
 ·show decide (mn (lo+w) (lo+f+g)<mx lo (lo+f))=false;refine decide_eq_false ?_;unfold mn mx;split<;>split<;>omega
 ·show decide (mn (lo+f+g) (lo+w)<mx (lo+f) lo)=false;refine decide_eq_false ?_;unfold mn mx;split<;>split<;>omega
theorem GD{a b:List Str}{w:Str}(h1:w∈a)(h2:w∈b)(l1:a.length<=100)(l2:b.length<=100):Mt (.wrd a) (.wrd b):=by
 refine⟨l1,l2,rfl,?_,?_⟩
 ·show(a.filter λw=>b.contains w).isEmpty=false
  have:w∈a.filter λw=>b.contains w:=List.mem_filter.mpr ⟨h1,by simpa using h2⟩
  cases h:a.filter λw=>b.contains w with
  |nil=>rw[h]at this;cases this
  |cons _ _=>rfl
 ·show(b.filter λw=>a.contains w).isEmpty=false
  have:w∈b.filter λw=>a.contains w:=List.mem_filter.mpr ⟨h2,by simpa using h1⟩
  cases h:b.filter λw=>a.contains w with
  |nil=>rw[h]at this;cases this
  |cons _ _=>rfl
theorem EB(a b c d i:Int)(h0:0<=i)(h1:i<4):∃x:Int,(x=a\/x=b\/x=c\/x=d)/\aA (.lst [.int a,.int b,.int c,.int d]) (.int i)=some (.int x):=by
 rcases(show i=0\/i=1\/i=2\/i=3 by omega)with z|z|z|z<;>subst z
 ·exact⟨a,by simp,rfl⟩
 ·exact⟨b,by simp,rfl⟩
 ·exact⟨c,by simp,rfl⟩
 ·exact⟨d,by simp,rfl⟩
def bit(y m:Int)(j:Nat):Bool:=Builtin.bitAnd (y/m/2^j) 1==1
theorem zF(us:List Str)(hl:us.length<=8)(sp:Str)(hs:sp∈us)(y m:Int)(h0:0<m)(h1:m<10^200)(x0 x2 x3 x4 x5 x6:Option S):∃ws:List Str,ws.length<=8/\sp∈ws/\gg [none,none,some 8,some 1] (gI (ah (af 7) (aw))) (gT 2 (og [0,1])) (ya (fB (f2 lg (af 1) (af 2))) (fB (f2 lg (f2 se (f2 yr (f2 cW (af 3) (fC (.int m))) (af 0)) (fC (.int 1))) (fC (.int 1))))) (af 1) [x0,‹.int y›,x2,x3,x4,x5,x6,‹.lst (us.map .str)›,‹.str sp›]=.ok (.lst (ws.map .str)):=by
 have dm:=λi=>lY (i:=i) h0 h1;have en:tR [.lst (us.map .str)]=some ((us.zipIdx 0).map λp=>.tup [.int (p.2:Int),.str p.1]):=by
  show some (kT 0 (us.map .str))=_;rw[wF]
 refine⟨((us.zipIdx 0).filter λp=>(p.1==sp)||bit y m p.2).map (·.1),?_,?_,?_⟩
 ·rw[Nq];refine MS (Ph _ _) ?_;rw[Pj];exact hl
 ·obtain⟨j,hj,e⟩:=N3 hs;refine List.mem_map.mpr ⟨(sp,j),List.mem_filter.mpr ⟨?_,by simp⟩,rfl⟩;rw[List.mem_iff_getElem?];refine⟨j,?_⟩;rw[List.getElem?_zipIdx,NY hj,e];simp
 ·refine eR (ds:=(us.zipIdx 0).map λp=>.tup [.int (p.2:Int),.str p.1]) (by simp! only[en]) (by rw[Nq,Pj];omega) ?_;refine Eq.trans (jZ (ρ:=[none,none,‹.str sp›,‹.int y›]) (g:=gT 2 (og [0,1])) (λp:Str×Nat=>D.tup [.int (p.2:Int),.str p.1]) (λp=>(p.1==sp)||bit y m p.2) (D.str∘λp:Str×Nat=>p.1) (us.zipIdx 0) λp _=>⟨[‹.int (p.2:Int)›,‹.str p.1›,‹.str sp›,‹.int y›],rfl,?_,?_⟩) (by rw[OL])
  ·have sh:=Cg (y/m) p.2;unfold bit;cases h:(p.1==sp)<;>simp! only[h,dm,sh,vP,NC,ND]
  ·simp! only[];rfl
theorem vO(x:Int)(h0:0<=x)(h1:x<2147483700):∃c e:Kd,Mt c e/\bv dD 1 9 [.int x]=.ok (.tup [c.d,e.d]):=by
 obtain⟨y,y0,y1,ey⟩:=fW x h0 h1;have g2:=gm 2;have g3:=gm 3;have g4:=gm 4;have d3:=gd 3;have d12:=gd 12;have d48:=gd 48;have d200:=gd 200;have p7:jG (.int y) (.int 7)=some (.int (y^7)):=uR y 7 (by decide) ‹0›;have pb:=Fu;have gp:=λi=>eY (i:=i) (show(0:Int)<Bj by omega);obtain⟨lo,_,e1⟩:=EB 0 (-3) (0-y^7%Bj) (y^7%Bj) (x/3%4) ‹0› ‹0›;obtain⟨wd',hw,e2⟩:=EB 0 1 6 Bj (x/12%4) ‹0› ‹0›;obtain⟨ex,hx,e3⟩:=EB 0 2 9 Bj (x/48%4) ‹0› ‹0›;have w0:0<=wd':=by omega
 have x0:0<=ex:=by omega
 have gw:=λi=>eY (i:=i) (show(0:Int)<wd'+1 by omega);have f0:=O7 (y^7) (show wd'+1≠0 by omega);have f1:=O8 (y^7) (show 0<wd'+1 by omega);obtain⟨T,hT⟩:∃T:cx,T=(aH (ik (fB (f2 lg (f2 cw (f2 cW (af 0) (fC (.int 200))) (fC (.int 2))) (fC (.int 1)))) (bI (cF (ah (af 6) (ah (af 5) (aw))))) (bZ)) (bI (cF (ah (af 5) (ah (af 6) (aw)))))):=⟨_,rfl⟩
 have fin:∀(c e:Kd)(x1 x2 x3 x4 x7 x8:Option S),Mt c e->∃c' e':Kd,Mt c' e'/\T K0 [‹.int x›,x1,x2,x3,x4,‹c.d›,‹e.d›,x7,x8]=.ok (.tup [c'.d,e'.d]):=λc e x1 x2 x3 x4 x7 x8 m=>by
  rw[hT];cases hb:(x/200%2==1)with
  |true=>exact⟨e,c,m.swap,by simp! only[d200,g2,hb,uS]⟩
  |false=>exact⟨c,e,m,by simp! only[d200,g2,hb,uS]⟩
 rw[pC];unfold dD;rw[<-hT];simp only[K0]at fin;cases h3:(x%3==2)with
 |false=>
  obtain⟨c',e',m,e⟩:=fin (.num lo (lo+wd')) (.num (lo+y^7%(wd'+1)) (lo+y^7%(wd'+1)+ex)) (‹.int y›) (‹.int lo›) (‹.int wd'›) (‹.int (y^7%(wd'+1))›) none none (Ga f0 ‹0› x0);unfold Kd.d at e;refine⟨c',e',m,?_⟩;refine Eq.trans ?_ e;simp! only[ey,p7,yn,gp,Iq,d3,g4,e1,d12,e2,gw,HM,d48,e3,g3,h3]
 |true=>
  obtain⟨us,u1,u2,eu⟩:=yB (x/3);have ul:0<us.length:=by
   cases us with
   |nil=>exact absurd rfl u1
   |cons _ _=>simp
  have gu:=λi=>eY (i:=i) (show(0:Int)<(us.length:Int)by omega);have q1:=O7 y (show(us.length:Int)≠0 by omega);have q2:=O8 y (show(0:Int)<(us.length:Int)by omega);obtain⟨sp,hs,es⟩:∃sp∈us,aA (.lst (us.map .str)) (.int (y%(us.length:Int)))=some (.str sp):=by
   refine⟨us[(y%(us.length:Int)).toNat]'‹0›,OH _,?_⟩;rw[Gg,uV,mz q1 q2];rfl
  obtain⟨A,a1,a2,ea⟩:=zF us u2 sp hs y 9 (by decide) (by decide) (‹.int x›) (‹.int lo›) (‹.int wd'›) (‹.int (y^7%(wd'+1))›) (‹.tup [.str "number",.int lo,.int (lo+wd')]›) (‹.tup [.str "number",.int (lo+y^7%(wd'+1)),.int (lo+y^7%(wd'+1)+ex)]›);obtain⟨B,b1,b2,eb⟩:=zF us u2 sp hs y 3000 (by decide) (by decide) (‹.int x›) (‹.int lo›) (‹.int wd'›) (‹.int (y^7%(wd'+1))›) (‹.tup [.str "word",.tup (A.map .str)]›) (‹.tup [.str "number",.int (lo+y^7%(wd'+1)),.int (lo+y^7%(wd'+1)+ex)]›);obtain⟨c',e',m,e⟩:=fin (.wrd A) (.wrd B) (‹.int y›) (‹.int lo›) (‹.int wd'›) (‹.int (y^7%(wd'+1))›) (‹.lst (us.map .str)›) (‹.str sp›) (GD a2 b2 ‹0› ‹0›);unfold Kd.d at e;refine⟨c',e',m,?_⟩;refine Eq.trans ?_ e;simp! only[ey,p7,yn,gp,Iq,d3,g4,e1,d12,e2,gw,HM,d48,e3,g3,h3,eu,Nq,gu,es,ea,eb,uS]
theorem xu(x b:Int)(m:Nat)(h0:0<=x)(h1:x<2147483700)(hb:0<=b)(hm:m<=8):∃L:List ZP,L.length=m/\(∀q∈L,q.1.1=q.2.1/\Mt q.1.2 q.2.2/\∃j:Nat,j<m/\xR b j q.1.1)/\bv dX 3 7 [.int x,.int b,.int m]=.ok (.tup [.tup ((L.map (·.1)).map kf),.tup ((L.map (·.2)).map kf)]):=by
 have rn:=jH m ‹0›;obtain⟨T,hT⟩:∃T:cx,T=(ic 4 (ic 3 (bI (cF (ah (fL cC (ah (af 3) (aw))) (ah (fL cC (ah (af 4) (aw))) (aw))))))):=⟨_,rfl⟩
 rw[pF];unfold dX;rw[<-hT];simp! only[Hx,rn];refine dC (Q:=λz=>∃L:List ZP,L.length=m/\(∀q∈L,q.1.1=q.2.1/\Mt q.1.2 q.2.2/\∃j:Nat,j<m/\xR b j q.1.1)/\z=.ok (.tup [.tup ((L.map (·.1)).map kf),.tup ((L.map (·.2)).map kf)]))
  (λi ρ=>∃(y:Int)(L:List ZP),0<=y/\y<2147483700/\L.length=i/\(∀q∈L,q.1.1=q.2.1/\Mt q.1.2 q.2.2/\∃j:Nat,j<m/\xR b j q.1.1)/\ρ=[‹.int y›,‹.int b›,‹.int m›,some (.own (.lst ((L.map (·.1)).map kf))),some (.own (.lst ((L.map (·.2)).map kf))),none,none]) ?_ ⟨x,[],h0,h1,rfl,(λ_ h=>nomatch h),rfl⟩ ?_
 ·rintro i d ρ kk hd ⟨y,L,y0,y1,ll,hq,rfl⟩;have hi:=cm hd;rw[cz]at hi;have hdi:d=.int (i:Int):=by
   rw[gK,Nm,Oa hi]at hd;cases hd;simp
  subst hdi;obtain⟨y',y0',y1',ey⟩:=fW y y0 y1;obtain⟨c,e,mt,ek⟩:=vO y' y0' ‹0›;obtain⟨nm,en,hnm⟩:=zT b (i:Int) hb ‹0›;have i0:aA (.tup [c.d,e.d]) (.int 0)=some c.d:=ra _ _;have i1:aA (.tup [c.d,e.d]) (.int 1)=some e.d:=rfl;have ap1:fE ((L.map (·.1)).map kf) [.tup [.str nm,c.d]]=some (((L++[((nm,c),(nm,e))]).map (·.1)).map kf):=by
   rw[kE (by rw[Nq,Nq];omega),N6,N6];rfl
  have ap2:fE ((L.map (·.2)).map kf) [.tup [.str nm,e.d]]=some (((L++[((nm,c),(nm,e))]).map (·.2)).map kf):=by
   rw[kE (by rw[Nq,Nq];omega),N6,N6];rfl
  refine⟨_,_,rfl,⟨y',L++[((nm,c),(nm,e))],y0',by omega,by rw[Np,Nw];omega,λq hm=>?_,rfl⟩,?_⟩
  ·rcases List.mem_append.mp hm with z|z
   ·exact hq q z
   ·rw[List.mem_singleton.mp z];exact⟨rfl,mt,i,hi,hnm⟩
  ·generalize ((L++[((nm,c),(nm,e))]).map (·.1)).map kf=Y1 at ap1 ⊢;generalize ((L++[((nm,c),(nm,e))]).map (·.2)).map kf=Y2 at ap2 ⊢;generalize (L.map (·.1)).map kf=Z1 at ap1 ⊢;generalize (L.map (·.2)).map kf=Z2 at ap2 ⊢;have sm1:=λK:Ks=>kr 3 fE (ah (cF (ah (fR (bv ca 2 7) (ah (af 1) (ah (af 5) (aw)))) (ah (f2 aA (af 6) (fC (.int 0))) (aw)))) (aw)) K [‹.int y'›,‹.int b›,‹.int m›,some (.own (.lst Z1)),some (.own (.lst Z2)),‹.int i›,‹.tup [c.d,e.d]›] (xs:=Z1) rfl;have sm2:=λK:Ks=>kr 4 fE (ah (cF (ah (fR (bv ca 2 7) (ah (af 1) (ah (af 5) (aw)))) (ah (f2 aA (af 6) (fC (.int 1))) (aw)))) (aw)) K [‹.int y'›,‹.int b›,‹.int m›,some (.own (.lst Y1)),some (.own (.lst Z2)),‹.int i›,‹.tup [c.d,e.d]›] (xs:=Z2) rfl;simp! only[ey,ek,sm1,en,i0,uS,ap1,sm2,i1,ap2]
 ·rintro ρ' ⟨y,L,y0,y1,ll,hq,rfl⟩;rw[cz]at ll;refine⟨L,ll,hq,?_⟩;rw[hT];simp! only[uS]
theorem Mu(a b c d e f g h:D)(i:Int)(h0:0<=i)(h1:i<8):∃x∈[a,b,c,d,e,f,g,h],aA (.lst [a,b,c,d,e,f,g,h]) (.int i)=some x:=by
 rcases(show i=0\/i=1\/i=2\/i=3\/i=4\/i=5\/i=6\/i=7 by omega)with z|z|z|z|z|z|z|z<;>subst z
 ·exact⟨a,by simp,rfl⟩
 ·exact⟨b,by simp,rfl⟩
 ·exact⟨c,by simp,rfl⟩
 ·exact⟨d,by simp,rfl⟩
 ·exact⟨e,by simp,rfl⟩
 ·exact⟨f,by simp,rfl⟩
 ·exact⟨g,by simp,rfl⟩
 ·exact⟨h,by simp,rfl⟩
theorem l2(a b:D):kQ [a,b]=some (.lst [a,b]):=nr rfl
theorem Kh(x e:Int)(e1:1<=e)(e8:e<=8):∃m:Nat,1<=m/\m<=8/\(m:Int)<=max 3 e/\aA (.lst [.int 1,.int 2,.int 1,.int 3,.int 2,.int 1,.int 2,.int e]) (.int (x%8))=some (.int (m:Int)):=by
 obtain⟨d,hd,ed⟩:=Mu (.int 1) (.int 2) (.int 1) (.int 3) (.int 2) (.int 1) (.int 2) (.int e) (x%8) ‹0› ‹0›;obtain⟨m,rfl,h⟩:∃m:Nat,d=.int (m:Int)/\1<=m/\m<=8/\(m:Int)<=max 3 e:=by
  simp only[Oh,Pa,or_false]at hd;rcases hd with rfl|rfl|rfl|rfl|rfl|rfl|rfl|rfl
  ·exact⟨1,rfl,by omega⟩
  ·exact⟨2,rfl,by omega⟩
  ·exact⟨1,rfl,by omega⟩
  ·exact⟨3,rfl,by omega⟩
  ·exact⟨2,rfl,by omega⟩
  ·exact⟨1,rfl,by omega⟩
  ·exact⟨2,rfl,by omega⟩
  ·exact⟨e.toNat,by congr 1;omega,by omega⟩
 exact⟨m,h.1,h.2.1,h.2.2,ed⟩
theorem HX(x:Int):∃dp:Nat,dp<=2/\aA (.lst [.int 0,.int 0,.int 1,.int 2]) (.int (x%4))=some (.int (dp:Int)):=by
 obtain⟨z,hz,ez⟩:=EB 0 0 1 2 (x%4) ‹0› ‹0›;rcases hz with rfl|rfl|rfl|rfl
 ·exact⟨0,by decide,ez⟩
 ·exact⟨0,by decide,ez⟩
 ·exact⟨1,by decide,ez⟩
 ·exact⟨2,by decide,ez⟩
theorem uc(dp:Nat)(hd:dp<=2)(x b st:Int)(r:Nat)(h0:0<=x)(h1:x<2147483700)(hb:0<=b)(hs:0<=st)(hr:r<=8):∃qs:List (Str×D),aU 12 [.int x,.int b,.int st,.int 0,.int r,.int dp]=.ok (.tup [.tup [],.tup (qs.map fld)])/\qs.length=r/\(∀q∈qs,KG dp q.2)/\∀(j:Nat)(w:Str),(qs.map (·.1))[j]?=some w->xR b (st+(j:Int)) w:=by
 obtain⟨ks,qs,e,k0,ql,_,hq,nm⟩:=EQ dp ‹0› x b st 0 r h0 h1 hb hs ‹0› hr
 have:=List.length_eq_zero_iff.mp k0
 subst this;exact⟨qs,e,ql,hq,nm⟩
theorem t0(a b:D):aA (.tup [a,b]) (.int 0)=some a:=rfl
theorem t1(a b:D):aA (.tup [a,b]) (.int 1)=some b:=rfl
theorem AA(ns:List Int):∃(L:List ZP)(r q:List (Str×D))(n:Nat),1<=L.length/\L.length<=8/\r.length+q.length<=8/\Ok L/\n<=2/\(∀f∈r,KG n f.2)/\(∀f∈q,KG n f.2)/\(∀w∈r.map (·.1),w∉q.map (·.1))/\bv cP 1 8 [.lst (ns.map .int)]=.ok (.tup [fr (k1 L) r,fr (k2 L) q]):=by
 obtain⟨x,x0,x1,ex⟩:=vv ns 0 ‹0›;obtain⟨c1,e1⟩:=TD.Kc ns 1 (by decide);have ex:bv cU 2 3 [.lst (ns.map .int),.int 0]=.ok (.int x):=ex;have mm:=λi=>qz (i:=i) (j:=48271) (by decide) (by decide);have gM:=gm 2147483647;have g4:=gm 4;have g8:=gm 8;have g9:=gm 9;have d8:=gd 8;have d32:=gd 32;have d64:=gd 64;have d512:=gd 512;have d2048:=gd 2048;obtain⟨b,hb,b0⟩:∃b:Int,c1*48271%2147483647=b/\0<=b:=⟨_,rfl,O7 _ (by decide)⟩
 obtain⟨y,y0,y1,ey⟩:=fW x x0 ‹0›;obtain⟨m,m1,m8,_,em⟩:=Kh x (1+x/64%8) ‹0› ‹0›;obtain⟨L,ll,hq,ek⟩:=xu y b m y0 ‹0› b0 m8;obtain⟨dp,dp2,ed⟩:=HX (x/8);have l0:∀a b:D,aA (.lst [a,b]) (.int 0)=some a:=λ_ _=>rfl;have l1:∀a b:D,aA (.lst [a,b]) (.int 1)=some b:=λ_ _=>rfl;obtain⟨T,hT⟩:∃T:cx,T=(aH (bG 6 (f2 aA (fR (aU 12) (ah (f2 bS (fR (bv aJ 1 1) (ah (af 1) (aw))) (fC (.int 1))) (ah (af 2) (ah (fC (.int 8)) (ah (fC (.int 0)) (ah (f2 aA (af 5) (fC (.int 0))) (ah (af 4) (aw)))))))) (fC (.int 1)))) (aH (bG 7 (f2 aA (fR (aU 12) (ah (f2 bS (fR (bv aJ 1 1) (ah (af 1) (aw))) (fC (.int 2))) (ah (af 2) (ah (fC (.int 16)) (ah (fC (.int 0)) (ah (f2 aA (af 5) (fC (.int 1))) (ah (af 4) (aw)))))))) (fC (.int 1)))) (bI (cF (ah (cF (ah (f2 aA (af 3) (fC (.int 0))) (ah (af 6) (aw)))) (ah (cF (ah (f2 aA (af 3) (fC (.int 1))) (ah (af 7) (aw)))) (aw))))))):=⟨_,rfl⟩
 have fin:∀(u v dp:Nat)(k5 k4:D),u+v<=8->dp<=2->k5=.lst [.int u,.int v]->k4=.int dp->∃(r q:List (Str×D)),r.length+q.length<=8/\(∀f∈r,KG dp f.2)/\(∀f∈q,KG dp f.2)/\(∀w∈r.map (·.1),w∉q.map (·.1))/\T K0 [‹.lst (ns.map .int)›,‹.int x›,‹.int b›,‹.tup [.tup ((L.map (·.1)).map kf),.tup ((L.map (·.2)).map kf)]›,‹k4›,‹k5›,none,none]=.ok (.tup [fr (k1 L) r,fr (k2 L) q]):=λu v dp k5 k4 h1 h2 e5 e4=>by
  subst e5 e4;obtain⟨r,er,rl,hr,n1⟩:=uc dp h2 (y+1) b 8 u ‹0› ‹0› b0 ‹0› ‹0›;obtain⟨q,eq,ql,hq',n2⟩:=uc dp h2 (y+2) b 16 v ‹0› ‹0› b0 ‹0› ‹0›;refine⟨r,q,by omega,hr,hq',λw h1 h2=>?_,?_⟩
  ·obtain⟨i,hi,ei⟩:=N3 h1;obtain⟨j,hj,ej⟩:=N3 h2;have a:=n1 i w (by rw[NY hi,ei]);have c:=n2 j w (by rw[NY hj,ej]);rw[Nq]at hi hj
   have:=DT ‹0› ‹0› ‹0› ‹0› a c
   omega
  rw[hT];simp! only[ey,l0,l1,t0,t1,er,eq,uS]
 rw[pC];unfold cP;rw[<-hT];simp only[K0]at fin;have ok:Ok L:=λz hz=>⟨(hq z hz).1,(hq z hz).2.1⟩
 cases h3:(x/32%8==3)with
 |true=>
  obtain⟨r,q,h1,h2,h4,h5,e⟩:=fin (x/512%9).toNat (8-x/512%9).toNat 0 (.lst [.int (x/512%9),.int (8-x/512%9)]) (.int 0) ‹0› (by decide) (by rw[Pk ‹0›,Pk ‹0›]) rfl;refine⟨L,r,q,0,by omega,by omega,h1,ok,by decide,h2,h4,h5,Eq.trans ?_ e⟩;simp! only[ex,e1,mm,gM,hb,ey,d64,g8,Mb,em,ek,d8,g4,Iq,ed,d512,d2048,l2,d32,h3,g9]
 |false=>
  obtain⟨r,q,h1,h2,h4,h5,e⟩:=fin (x/512%4).toNat (x/2048%4).toNat dp (.lst [.int (x/512%4),.int (x/2048%4)]) (.int dp) ‹0› dp2 (by rw[Pk ‹0›,Pk ‹0›]) rfl;refine⟨L,r,q,dp,by omega,by omega,h1,ok,dp2,h2,h4,h5,Eq.trans ?_ e⟩;simp! only[ex,e1,mm,gM,hb,ey,d64,g8,Mb,em,ek,d8,g4,Iq,ed,d512,d2048,l2,d32,h3]
section
open Classical
variable{τ:List Bool}{m:Nat}
theorem So.sub{L M:List (List D)}(h:So τ m M)(s:L.Sublist M):So τ m L:=
 ⟨h.t0,h.hm,λr hr=>h.sh r (s.subset hr),h.pw.sublist s,Od s.length_le h.ln⟩
noncomputable abbrev ak(m:Nat)(V:List (List D)):List (List Key×D):=V.map λr=>(kq (r.take m),D.tup r)
theorem Cm{V:List (List D)}(h:So τ m V)(X:D)(hX:X=.lst (V.map .tup)\/X=.tup (V.map .tup)):bv gb 2 2 [.int m,X]=.ok (eT (ak m V)):=by
 have ln:=h.ln;have f2':gg [none,some 0] (bc (af 1)) (gN 0) (cX) (cF (ah (aP (af 0) (aG) (bp (af 1))) (ah (af 0) (aw)))) [‹.int m›,‹X›]=.ok (.lst ((ak m V).map xG)):=by
  refine eR (ds:=V.map .tup) (by rcases hX with rfl|rfl<;>simp! only[]) (by rw[Nq];omega) ?_;rw[OL];refine oz D.tup _ V λr hr=>⟨[‹.tup r›,‹.int m›],rfl,rfl,?_⟩
  simp! only[dQ,uS];show _=Except.ok (D.tup [.tup ((kq (r.take m)).map bN),.tup r]);rw[wU (h.sh r hr)]
 have knd:((ak m V).map (·.1)).Nodup:=by
  rw[OL];exact List.pairwise_map.mpr (List.Pairwise.imp_of_mem (λ{a b} ha hb ne e=>ne (yh (h.sh a ha) (h.sh b hb) e)) h.pw)
 have gd:vk [.lst ((ak m V).map xG)]=some (eT (ak m V)):=by
  show(j3 _).bind _=_;rw[xi];show(if small _ then _ else _)=_;rw[if_pos (dR (by rw[Nq];omega))];unfold BD;rw[zr _ [] knd];rfl
 rw[ga];unfold gb;generalize eT (ak m V)=Z at gd;simp! only[f2',gd]
theorem Dr{V:List (List D)}(h:So τ m V){f:List D}(zs:Sh τ f):iH (.tup f) (eT (ak m V))=some (.bl (!decide (f∈V.map λr=>r.take m))):=by
 show(nH (encK _) ((ak m V).map (·.2)) (.tup f)).bind wu=_;unfold nH;rw[om];show((jq (.tup f)).bind λk=>some (D.bl ((ak m V).any λp=>decide (p.1=k)))).bind wu=_;have e:jq (.tup f)=some (kq f):=by
  conv=>lhs;rw[<-wU zs]
  exact cA _
 rw[e];show some (D.bl (!((ak m V).any λp=>decide (p.1=kq f))))=_;congr 3;rw[Bool.eq_iff_iff,O9,decide_eq_true_iff];constructor
 ·rintro⟨p,hp,e⟩;obtain⟨a,ha,rfl⟩:=List.mem_map.mp hp;exact List.mem_map.mpr ⟨a,ha,yh (h.sh a ha) zs (of_decide_eq_true e)⟩
 ·intro z;obtain⟨a,ha,e⟩:=List.mem_map.mp z;exact⟨_,List.mem_map.mpr ⟨a,ha,rfl⟩,decide_eq_true (by show kq (a.take m)=_;rw[show a.take m=f from e])⟩
theorem IU{V:List (List D)}(h:So τ m V){f:List D}(zs:Sh τ f):yc (.tup f) (eT (ak m V))=some (.bl (decide (f∈V.map λr=>r.take m))):=by
 have:=Dr h zs
 have e:iH (.tup f) (eT (ak m V))=(yc (.tup f) (eT (ak m V))).bind wu:=rfl;rw[e]at this;cases hg:yc (.tup f) (eT (ak m V))with
 |none=>rw[hg]at this;cases this
 |some d=>
  rw[hg]at this;cases d with
  |bl b=>
   have this:some (D.bl (!b))=some (.bl (!decide (f∈V.map λr=>r.take m))):=this;injection this with this;injection this with this
   have:b=decide (f∈V.map λr=>r.take m):=by
    generalize decide (f∈V.map λr=>r.take m)=y at this;cases b<;>cases y<;>first|rfl|cases this
   rw[this]
  |_=>cases this
theorem GN{V:List (List D)}(h:So τ m V){c:List D}(hc:c∈V):rL (eT (ak m V)) (.tup (c.take m))=some (.tup c):=by
 have knd:((ak m V).map (·.1)).Nodup:=by
  rw[OL];exact List.pairwise_map.mpr (List.Pairwise.imp_of_mem (λ{a b} ha hb ne e=>ne (yh (h.sh a ha) (h.sh b hb) e)) h.pw)
 have e:=Ds (ak m V) (kq (c.take m));rw[wU (h.sh c hc)]at e;rw[e];exact rS knd (List.mem_map.mpr ⟨c,hc,rfl⟩)
theorem HC:∀{V:List (List D)}{c:List D},V.Pairwise (λa b=>a.take m≠b.take m)->c∈V->V.filter (λx=>decide (x.take m=c.take m))=[c]
 |b::V,c,pw,hc=>by
  obtain⟨p1,p2⟩:=List.pairwise_cons.mp pw;rcases List.mem_cons.mp hc with e|e
  ·subst e;rw[OD (by simp),List.filter_eq_nil_iff.mpr λx hx=>by simpa using(p1 x hx).symm]
  ·rw[OG (by simpa using p1 c e),HC p2 e]
theorem FQ{V T R F:List (List D)}(hF:F=T.filter λr=>!decide (r.take m∈V.map λr=>r.take m))(s:So τ m (V++F))(hT:∀r∈T,Sh τ (r.take m))(tl:T.length<64)(ri:wq m R)(p:R.Perm (V++F))(Y:D)(hY:Y=.lst (T.map .tup)\/Y=.tup (T.map .tup)):bv gP 3 4 [.int m,.lst (V.map .tup),Y]=.ok (.tup (R.map .tup)):=by
 have hV:=s.sub (List.sublist_append_left V F);have b:=Cm hV (.lst (V.map .tup)) (.inl rfl);have ni:=λr (hr:r∈T)=>Dr hV (hT r hr);have sp:=s.prog ri p;have vl:=s.ln;rw[Np]at vl;generalize eT (ak m V)=Z at b ni;have lc3:gg [none,some 0,some 3] (bc (af 2)) (gN 0) (fB (f2 iH (aP (af 0) (aG) (bp (af 1))) (af 2))) (af 0) [‹.int m›,‹.lst (V.map .tup)›,‹Y›,‹Z›]=.ok (.lst (F.map .tup)):=by
  refine eR (ds:=T.map .tup) (by rcases hY with rfl|rfl<;>simp! only[]) (by rw[Nq];omega) ?_;rw[hF];refine mX (ρ:=[none,‹.int m›,‹Z›]) (g:=gN 0) (C:=fB (f2 iH (aP (af 0) (aG) (bp (af 1))) (af 2))) (Fe:=af 0) D.tup (λr=>!decide (r.take m∈V.map λr=>r.take m)) D.tup _ λr hr=>⟨[‹.tup r›,‹.int m›,‹Z›],rfl,?_,λ_=>rfl⟩
  have:=ni r hr
  simp! only[dQ,this]
 have ad:=CJ (V.map .tup) (F.map .tup) (by rw[Nq,Nq];omega);rw[<-N6]at ad;rw[pF];unfold gP;simp! only[b,lc3,GY,ad,sp]
structure Tb(τ:List Bool)(m:Nat)(V:List (List D)):Prop where
 s:So τ m V
 ri:wq m V
theorem Tb.of{V:List (List D)}(t0:τ≠[])(hm:m=τ.length)(sh:∀r∈V,Sh τ (r.take m))(ri:wq m V)(ln:V.length<64):Tb τ m V:=⟨⟨t0,hm,sh,ye sh ri,ln⟩,ri⟩
theorem Tb.map{V:List (List D)}(h:Tb τ m V)(g:List D->List D)(hg:∀r∈V,(g r).take m=r.take m):Tb τ m (V.map g):=
 Tb.of h.s.t0 h.s.hm (λr hr=>by
  obtain⟨a,ha,rfl⟩:=List.mem_map.mp hr;rw[hg a ha];exact h.s.sh a ha) (List.pairwise_map.mpr (List.Pairwise.imp_of_mem (λ{a b} ha hb e=>by rw[hg a ha,hg b hb];exact e) h.ri)) (by rw[Nq];exact h.s.ln)
noncomputable def jr(m:Nat)(B:List (List D))(a:List D):List (List D):=(B.filter λc=>decide (c.take m=a.take m)).map λc=>a++c.drop m
noncomputable def jn(m:Nat)(A B:List (List D)):List (List D):=A.flatMap (jr m B)
theorem Dg{B:List (List D)}(h:So τ m B){a:List D}{c:List D}(hc:c∈B)(e:c.take m=a.take m):jr m B a=[a++c.drop m]:=by
 unfold jr;rw[<-e,HC h.pw hc];rfl
theorem Fy{B:List (List D)}{a:List D}(e:a.take m∉B.map λr=>r.take m):jr m B a=[]:=by
 unfold jr;rw[List.filter_eq_nil_iff.mpr λc hc z=>e (List.mem_map.mpr ⟨c,hc,of_decide_eq_true z⟩)];rfl
theorem wG(f:List D->List (List D))(p:List D->Bool)(v:List D->D):∀A:List (List D),(∀a∈A,(p a=false/\f a=[])\/∃x,p a=true/\v a=.tup x/\f a=[x])->(A.filter p).map v=(A.flatMap f).map .tup
 |[],_=>rfl
 |a::A,h=>by
  have ih:=wG f p v A λx hx=>h x (MX _ hx);rw[Pl,N6,<-ih];rcases h a MV with⟨e1,e2⟩|⟨x,e1,e2,e3⟩
  ·rw[OG (by rw[e1];simp),e2];rfl
  ·rw[OD e1,Ny,e2,e3];rfl
theorem Bx{A B:List (List D)}(hA:∀a∈A,Sh τ (a.take m))(al:A.length<64)(wa:∀a∈A,a.length<=100)(hB:So τ m B)(wb:∀c∈B,c.length<=100)(o q2:D){k:KL}{r:List (Str×D)}(hk:k.length=m):
  bv eP 3 5 [o,.tup [fr k r,q2],.tup [.tup (A.map .tup),.tup (B.map .tup)]]=.ok (.tup ((jn m A B).map .tup)):=by
 have b:=Cm hB (.tup (B.map .tup)) (.inr rfl);have ii:=λa (ha:a∈A)=>IU hB (hA a ha);have dx:=λc (hc:c∈B)=>GN hB hc;generalize eT (ak m B)=Z at b ii dx;have lc:∀a0 a1:Option S,gg [none,some 4,some 3] (bc (f2 aA (af 2) (fC (.int 0)))) (gN 0) (fB (f2 yc (aP (af 0) (aG) (bp (af 2))) (af 1))) (f2 bS (af 0) (aP (f2 rL (af 1) (aP (af 0) (aG) (bp (af 2)))) (bp (af 2)) (aG))) [a0,a1,‹.tup [.tup (A.map .tup),.tup (B.map .tup)]›,‹.int m›,‹Z›]=.ok (.lst ((jn m A B).map .tup)):=λ_ _=>by
  refine eR (ds:=A.map .tup) (by simp! only[]) (by rw[Nq];omega) ?_;have fo:=wG (jr m B) (λa=>decide (a.take m∈B.map λr=>r.take m)) (λa=>.tup ((jr m B a).headD [])) A λa ha=>by
   by_cases e:a.take m∈B.map λr=>r.take m
   ·obtain⟨c,hc,ec⟩:=List.mem_map.mp e;have ej:=Dg hB hc (show c.take m=a.take m from ec);exact .inr ⟨a++c.drop m,decide_eq_true e,by rw[ej];rfl,ej⟩
   ·exact .inl ⟨decide_eq_false e,Fy e⟩
  unfold jn;rw[<-fo];refine mX (ρ:=[none,‹Z›,‹.int m›]) (g:=gN 0) (C:=fB (f2 yc (aP (af 0) (aG) (bp (af 2))) (af 1))) (Fe:=f2 bS (af 0) (aP (f2 rL (af 1) (aP (af 0) (aG) (bp (af 2)))) (bp (af 2)) (aG))) D.tup (λa=>decide (a.take m∈B.map λr=>r.take m)) (λa=>.tup ((jr m B a).headD [])) A λa ha=>⟨[‹.tup a›,‹Z›,‹.int m›],rfl,?_,λz=>?_⟩
  ·have:=ii a ha
   simp! only[dQ,this]
  ·obtain⟨c,hc,ec⟩:=List.mem_map.mp (of_decide_eq_true z);have ec:c.take m=a.take m:=ec;have dc:=dx c hc;rw[ec]at dc;have ad:=e6 a (c.drop m) (by rw[Nt];have:=wa a ha;have:=wb c hc;omega);rw[Dg hB hc ec];simp! only[dQ,dc,qT,ad];rfl
 rw[pF];unfold eP;generalize (jn m A B).map D.tup=W at lc ⊢;simp! only[t0,t1,Nq,hk,b,lc]
end
theorem CC{i:Nat}{K:Ks}{ρ:av}(h:HK ρ=true):o6 i K ρ=K.nx (ρ.set i (some (.nest (.lst [.lst [],.lst []])))):=by
 unfold o6;rw[if_pos h]
theorem zj{i c:Nat}{f:FX}{K:Ks}{ρ:av}{xs ys:List D}{v:D}(h:ρ[i]?=some (some (.nest (.lst xs))))(hc:xs[c]?=some (.lst ys))(e:f ρ=.ok v)(l:ys.length<1000):qe i c f K ρ=K.nx (ρ.set i (some (.nest (.lst (xs.set c (.lst (ys++[v]))))))):=by
 unfold qe;rw[h];show(match xs[c]? with|some (.lst ys)=>_|_=>_)=_;rw[hc];show(Cu (f ρ)).bind _=_;rw[e];show(if small (ys.length+1)then _ else _)=_;rw[if_pos (dR ‹0›)]
theorem Mz(a b c d e:D):kQ [a,b,c,d,e]=some (.lst [a,b,c,d,e]):=nr rfl
section
variable{L:List ZP}{r q:List (Str×D)}{n:Nat}
theorem Jj(ok:Ok L)(x:Int):∃(K:KL)(b0 b1:Bool),K.length=L.length/\(∀p∈K,p.2.gd)/\K.map (·.2.b)=so L/\aA (.lst [.tup ((k1 L).map kf),.tup ((k2 L).map kf),.tup ((bk L).map kf),.tup ((bk L).map kf),.tup ((bk L).map kf)]) (.int (x%5))=some (.tup (K.map kf))/\AV (.int (x%5)) (.tup [.int 0,.int 2,.int 4])=some (.bl b0)/\AV (.int (x%5)) (.tup [.int 1,.int 3,.int 4])=some (.bl b1):=by
 have bl:(bk L).length=L.length:=by unfold bk;rw[Nq]
 rcases(show x%5=0\/x%5=1\/x%5=2\/x%5=3\/x%5=4 by omega)with z|z|z|z|z<;>rw[z]
 ·exact⟨k1 L,true,false,Nq _,Ih ok,MB ok,rfl,by kernel_rfl,by kernel_rfl⟩
 ·exact⟨k2 L,false,true,Nq _,IH ok,Mr ok,rfl,by kernel_rfl,by kernel_rfl⟩
 ·exact⟨bk L,true,false,bl,zM ok,rfl,rfl,by kernel_rfl,by kernel_rfl⟩
 ·exact⟨bk L,false,true,bl,zM ok,rfl,rfl,by kernel_rfl,by kernel_rfl⟩
 ·exact⟨bk L,true,true,bl,zM ok,rfl,rfl,by kernel_rfl,by kernel_rfl⟩
def Rw(L:List ZP)(w:Nat)(a:List D):Prop:=a.length=L.length+w/\Sh (so L) (a.take L.length)/\∀v∈a,AL 4 v
structure Tw(L:List ZP)(w:Nat)(A:List (List D)):Prop where
 tb:Tb (so L) L.length A
 rw:∀a∈A,Rw L w a
theorem Fg(l1:1<=L.length):so L≠[]:=λz=>by
 have:=congrArg List.length z
 rw[vQ,NF]at this;omega
theorem mL(l1:1<=L.length){w:Nat}(rows:List (List D))(h:∀a∈rows,Rw L w a)(hn:rows.length<64):∃A:List (List D),Tw L w A/\A.length<=rows.length/\bv bu 2 4 [.int L.length,.lst (rows.map .tup)]=.ok (.tup (A.map .tup)):=by
 obtain⟨t,et,ri,tm,tl,_⟩:=uK (σ:=so L) (kl:=L.length) (Fg l1) (vQ L).symm rows (λa ha=>(h a ha).2.1) hn;exact⟨t,⟨Tb.of (Fg l1) (vQ L).symm (λa ha=>(h a (tm a ha)).2.1) ri ‹0›,λa ha=>h a (tm a ha)⟩,tl,et⟩
theorem A6(ns:List Int)(l1:1<=L.length)(l8:L.length<=8)(r8:r.length<=8)(q8:q.length<=8)(ok:Ok L)(n2:n<=2)(hr:∀f∈r,KG n f.2)(hq:∀f∈q,KG n f.2)(M:Int)(M5:5<=M)(M50:M<=50):∃A B:List (List D),Tw L r.length A/\Tw L q.length B/\A.length<=M/\B.length<=M/\bv cJ 5 12 [fr (k1 L) r,fr (k2 L) q,.lst (ns.map .int),.int 2,.int M]=.ok (.tup [.tup (A.map .tup),.tup (B.map .tup)]):=by
 have kb:=v8 ok l8 [] (.tup (r.map fld)) (.tup (q.map fld));rw[Nf]at kb;have kb:bv bR 2 5 [fr (k1 L) r,fr (k2 L) q]=.ok (.tup ((bk L).map kf)):=kb;obtain⟨N,hN,rn⟩:∃N:Nat,(N:Int)<=M/\∀e1 e2:Int,nM [.int (ns.length:Int),.int (2+5)]=some (.int e1)->qg [.int e1,.int (2+M)]=some (.int e2)->oQ [.int 2,.int e2]=some (dM 2 N):=by
  refine⟨((if(2+M:Int)<(if(2+5:Int)>(ns.length:Int)then 2+5 else(ns.length:Int))then 2+M else(if(2+5:Int)>(ns.length:Int)then 2+5 else(ns.length:Int)))-2).toNat,?_,λe1 e2 h1 h2=>?_⟩
  ·split<;>split<;>omega
  ·rw[iU]at h1;cases h1;rw[ju]at h2;cases h2;generalize he:(if(2+M:Int)<(if(2+5:Int)>(ns.length:Int)then 2+5 else(ns.length:Int))then 2+M else(if(2+5:Int)>(ns.length:Int)then 2+5 else(ns.length:Int)))=e;have e2:2<=e/\e<=60:=(by rw[<-he];split<;>split<;>omega);show(if okR 2&&okR e then some (dM 2 ((e-2).toNat))else none)=_;have o1:okR 2=true:=decide_eq_true ⟨by decide,by decide⟩;have o2:okR e=true:=decide_eq_true ⟨by omega,by omega⟩;rw[o1,o2];rfl
 have mx:=iU (ns.length:Int) (2+5);have rn:=rn _ _ mx (ju _ _);have g5:=gm 5;have g7:=gm 7;have g2:=gm 2;have d5:=gd 5;have i0:aA (fr (k1 L) r) (.int 0)=some (.tup ((k1 L).map kf)):=rfl;have i1:aA (fr (k1 L) r) (.int 1)=some (.tup (r.map fld)):=rfl;have j0:aA (fr (k2 L) q) (.int 0)=some (.tup ((k2 L).map kf)):=rfl;have j1:aA (fr (k2 L) q) (.int 1)=some (.tup (q.map fld)):=rfl;have kL:(k1 L).length=L.length:=Nq _;obtain⟨T,hT⟩:∃T:cx,T=(xN 6 (bI (cF (ah (fR (bv bu 2 4) (ah (fL fw (ah (f2 aA (af 0) (fC (.int 0))) (aw))) (ah (f2 aA (af 6) (fC (.int 0))) (aw)))) (ah (fR (bv bu 2 4) (ah (fL fw (ah (f2 aA (af 0) (fC (.int 0))) (aw))) (ah (f2 aA (af 6) (fC (.int 1))) (aw)))) (aw)))))):=⟨_,rfl⟩
 rw[C9];unfold cJ;rw[<-hT];generalize hF1:fr (k1 L) r=F1 at *;generalize hF2:fr (k2 L) q=F2 at *;have nw:=λK:Ks=>CC (i:=6) (K:=K) (ρ:=[‹F1›,‹F2›,‹.lst (ns.map .int)›,‹.int 2›,‹.int M›,‹.tup ((bk L).map kf)›,none,none,none,none,none,none]) rfl;simp! only[kb,nw,Nq,rn];refine dC (Q:=λz=>∃A B:List (List D),Tw L r.length A/\Tw L q.length B/\A.length<=M/\B.length<=M/\z=.ok (.tup [.tup (A.map .tup),.tup (B.map .tup)]))
  (λi ρ=>∃R0 R1:List (List D),R0.length<=i/\R1.length<=i/\(∀a∈R0,Rw L r.length a)/\(∀a∈R1,Rw L q.length a)/\ρ=[‹F1›,‹F2›,‹.lst (ns.map .int)›,‹.int 2›,‹.int M›,‹.tup ((bk L).map kf)›,some (.nest (.lst [.lst (R0.map .tup),.lst (R1.map .tup)])),none,none,none,none,none]) ?_ ⟨[],[],M3 _,M3 _,(λ_ h=>nomatch h),(λ_ h=>nomatch h),rfl⟩ ?_
 ·rintro i d ρ kk hd ⟨R0,R1,l0,l1',h0,h1,rfl⟩;have hi:=cm hd;rw[cz]at hi;have hdi:d=.int ((2+i:Nat):Int):=by
   rw[gK,Nm,Oa hi]at hd;cases hd;simp
  subst hdi;obtain⟨x,x0,x1,ex⟩:=vv ns (2+i) ‹0›;obtain⟨y,y0,y1,ey⟩:=fW x x0 ‹0›;obtain⟨K,b0,b1,kl,kg,ks,ek,eb0,eb1⟩:=Jj ok x;obtain⟨h,hh0,hh1,eh⟩:∃h:Int,0<=h/\h<2147483700/\aA (.lst [.int y,.int (y%7)]) (.int (x/5%2))=some (.int h):=by
   rcases(show x/5%2=0\/x/5%2=1 by omega)with z|z<;>rw[z]
   ·exact⟨y,by omega,by omega,rfl⟩
   ·exact⟨y%7,by omega,by omega,rfl⟩
  obtain⟨vs,ev,v1,v2,v3⟩:=jT n n2 K [] ‹0› (by decide) kg (λ_ h=>nomatch h) (K.map kf) (by rw[Nf,yA]) h hh0 hh1;have v1:vs.length=K.length+0:=v1;rw[OT ‹0›]at v2;have vsh:=v2.sh;rw[ks]at vsh;obtain⟨us,eu,u1,_,u3⟩:=jT n n2 [] r (by decide) r8 (λ_ h=>nomatch h) hr (r.map fld) rfl (y+1) ‹0› ‹0›;have u1:us.length=0+r.length:=u1;obtain⟨ws,ew,w1,_,w3⟩:=jT n n2 [] q (by decide) q8 (λ_ h=>nomatch h) hq (q.map fld) rfl (y+2) ‹0› ‹0›;have w1:ws.length=0+q.length:=w1;have a1:=e6 vs us ‹0›;have a2:=e6 vs ws ‹0›;have rA:Rw L r.length (vs++us):=⟨by rw[Np];omega,by rw[Pm ‹0›];exact vsh,λv hv=>(List.mem_append.mp hv).elim (v3 v) (u3 v)⟩
  have rB:Rw L q.length (vs++ws):=⟨by rw[Np];omega,by rw[Pm ‹0›];exact vsh,λv hv=>(List.mem_append.mp hv).elim (v3 v) (w3 v)⟩
  have sn:∀{w:Nat}{R:List (List D)}{a:List D},(∀a∈R,Rw L w a)->Rw L w a->∀c∈R++[a],Rw L w c:=λh ha c hc=>by
   rcases List.mem_append.mp hc with z|z
   ·exact h c z
   ·rw[List.mem_singleton.mp z];exact ha
  have m0:(R0++[vs++us]).map D.tup=R0.map D.tup++[.tup (vs++us)]:=by rw[N6];rfl
  have m1:(R1++[vs++ws]).map D.tup=R1.map D.tup++[.tup (vs++ws)]:=by rw[N6];rfl
  have p0:=λ(K:Ks)(Y1:List D)=>zj (v:=.tup (vs++us)) (i:=6) (c:=0) (f:=f2 bS (af 11) (fR (bv bQ 2 2) (ah (f2 aA (af 0) (fC (.int 1))) (ah (f2 bS (af 10) (fC (.int 1))) (aw))))) (K:=K) (ρ:=[‹F1›,‹F2›,‹.lst (ns.map .int)›,‹.int 2›,‹.int M›,‹.tup ((bk L).map kf)›,some (.nest (.lst [.lst (R0.map .tup),.lst Y1])),‹.int ((2+i:Nat):Int)›,‹.int x›,‹.int (x%5)›,‹.int y›,‹.tup vs›]) rfl rfl (by simp! only[i1,eu,a1]) (by rw[Nq];omega);have p1:=λ(K:Ks)(Y0:List D)=>zj (v:=.tup (vs++ws)) (i:=6) (c:=1) (f:=f2 bS (af 11) (fR (bv bQ 2 2) (ah (f2 aA (af 1) (fC (.int 1))) (ah (f2 bS (af 10) (fC (.int 2))) (aw))))) (K:=K) (ρ:=[‹F1›,‹F2›,‹.lst (ns.map .int)›,‹.int 2›,‹.int M›,‹.tup ((bk L).map kf)›,some (.nest (.lst [.lst Y0,.lst (R1.map .tup)])),‹.int ((2+i:Nat):Int)›,‹.int x›,‹.int (x%5)›,‹.int y›,‹.tup vs›]) rfl rfl (by simp! only[j1,ew,a2]) (by rw[Nq];omega);rw[<-m0]at p0;rw[<-m1]at p1;refine⟨_,[‹F1›,‹F2›,‹.lst (ns.map .int)›,‹.int 2›,‹.int M›,‹.tup ((bk L).map kf)›,some (.nest (.lst [.lst ((if b0 then R0++[vs++us]else R0).map .tup),.lst ((if b1 then R1++[vs++ws]else R1).map .tup)])),none,none,none,none,none],rfl,⟨_,_,?_,?_,?_,?_,rfl⟩,?_⟩
  ·cases b0<;>simp<;>omega
  ·cases b1<;>simp<;>omega
  ·cases b0
   ·exact h0
   ·exact sn h0 rA
  ·cases b1
   ·exact h1
   ·exact sn h1 rB
  ·cases b0<;>cases b1<;>simp! only[ex,g5,ey,i0,j0,Mz,ek,g7,l2,d5,g2,eh,ev,HM,eb0,eb1,p0,p1]
 ·rintro ρ' ⟨R0,R1,l0,l1',h0,h1,rfl⟩;rw[cz]at l0 l1';obtain⟨A,tA,la,ea⟩:=mL l1 R0 h0 ‹0›;obtain⟨B,tB,lb,eb⟩:=mL l1 R1 h1 ‹0›;refine⟨A,B,tA,tB,by omega,by omega,?_⟩;rw[hT];have fz:∀(G:cx)(K:Ks),xN 6 G K [‹F1›,‹F2›,‹.lst (ns.map .int)›,‹.int 2›,‹.int M›,‹.tup ((bk L).map kf)›,some (.nest (.lst [.lst (R0.map .tup),.lst (R1.map .tup)])),none,none,none,none,none]=G K [‹F1›,‹F2›,‹.lst (ns.map .int)›,‹.int 2›,‹.int M›,‹.tup ((bk L).map kf)›,‹.lst [.lst (R0.map .tup),.lst (R1.map .tup)]›,none,none,none,none,none]:=λ_ _=>rfl;simp! only[fz,i0,Nq,ea,eb,uS]
end
section
open Classical
variable{τ:List Bool}{m:Nat}
abbrev ks(m:Nat)(T:List (List D)):List (List D):=T.map λr=>r.take m
noncomputable abbrev F1(m:Nat)(A B V:List (List D)):List (List D):=A.filter λa=>!decide (a.take m∈ks m V)&&!decide (a.take m∈ks m B)
noncomputable abbrev F2(m:Nat)(B V:List (List D)):List (List D):=B.filter λa=>!decide (a.take m∈ks m V)
abbrev va(e:Nat)(V:List (List D)):List (List D):=V.map (·.take e)
abbrev vb(m e:Nat)(V:List (List D)):List (List D):=V.map λv=>v.take m++v.drop e
theorem pR{v:List D}{e:Nat}(h:m<=v.length):(v.take m++v.drop e).take m=v.take m:=by
 rw[Pn (by rw[Nh];omega),Pp,NZ]
theorem FD{e:Nat}(me:m<=e)(V:List (List D)):ks m (va e V)=ks m V:=by
 show List.map _ (List.map _ V)=_;rw[OL];exact N5 λv _=>by rw[Function.comp_apply,Pp,OW me]
theorem Cy{e:Nat}{V:List (List D)}(h:∀v∈V,m<=v.length):ks m (vb m e V)=ks m V:=by
 show List.map _ (List.map _ V)=_;rw[OL];exact N5 λv hv=>pR (h v hv)
theorem Hl(B V:List (List D)):(F2 m B V).length<=B.length:=Ph _ _
theorem nT{A B V:List (List D)}{a:List D}(h:a∈F1 m A B V):a∈A/\a.take m∉ks m V/\a.take m∉ks m B:=by
 obtain⟨h1,h2⟩:=List.mem_filter.mp h;rw[Nu,Pq,Pq]at h2;exact⟨h1,of_decide_eq_false h2.1,of_decide_eq_false h2.2⟩
theorem lW{B V:List (List D)}{a:List D}(h:a∈F2 m B V):a∈B/\a.take m∉ks m V:=by
 obtain⟨h1,h2⟩:=List.mem_filter.mp h;rw[Pq]at h2;exact⟨h1,of_decide_eq_false h2⟩
structure Pt(τ:List Bool)(m e:Nat)(A B V R1 R2:List (List D)):Prop where
 s1:So τ m (va e V++F1 m A B V)
 s2:So τ m (vb m e V++F2 m B V)
 r1:wq m R1
 r2:wq m R2
 p1:R1.Perm (va e V++F1 m A B V)
 p2:R2.Perm (vb m e V++F2 m B V)
theorem FH{A B V:List (List D)}{e:Nat}(me:m<=e)(tA:Tb τ m A)(tB:Tb τ m B)(tV:Tb τ m V)(vl:∀v∈V,m<=v.length):(va e V++F1 m A B V).Pairwise (λa b=>a.take m≠b.take m)/\(vb m e V++F2 m B V).Pairwise (λa b=>a.take m≠b.take m):=by
 refine⟨List.pairwise_append.mpr ⟨(tV.map (·.take e) λv _=>by rw[Pp,OW me]).s.pw,(tA.s.sub Pr).pw,λa ha y hy z=>?_⟩,List.pairwise_append.mpr ⟨(tV.map (λv=>v.take m++v.drop e) λv hv=>pR (vl v hv)).s.pw,(tB.s.sub Pr).pw,λa ha y hy z=>?_⟩⟩
 ·have:y.take m∈ks m (va e V):=List.mem_map.mpr ⟨a,ha,z⟩
  rw[FD me]at this;exact(nT hy).2.1 this
 ·have:y.take m∈ks m (vb m e V):=List.mem_map.mpr ⟨a,ha,z⟩
  rw[Cy vl]at this;exact(lW hy).2 this
theorem FK{A B V:List (List D)}{e:Nat}(me:m<=e)(tA:Tb τ m A)(tB:Tb τ m B)(tV:Tb τ m V)(vl:∀v∈V,m<=v.length)(l1:(va e V++F1 m A B V).length<64)(l2:(vb m e V++F2 m B V).length<64):So τ m (va e V++F1 m A B V)/\So τ m (vb m e V++F2 m B V):=by
 obtain⟨p1,p2⟩:=FH (e:=e) me tA tB tV vl;refine⟨⟨tA.s.t0,tA.s.hm,λa ha=>?_,p1,l1⟩,⟨tA.s.t0,tA.s.hm,λa ha=>?_,p2,l2⟩⟩
 ·rcases List.mem_append.mp ha with z|z
  ·obtain⟨v,hv,rfl⟩:=List.mem_map.mp z;rw[Pp,OW me];exact tV.s.sh v hv
  ·exact tA.s.sh a (nT z).1
 ·rcases List.mem_append.mp ha with z|z
  ·obtain⟨v,hv,rfl⟩:=List.mem_map.mp z;rw[pR (vl v hv)];exact tV.s.sh v hv
  ·exact tB.s.sh a (lW z).1
theorem Gc{A B V R1 R2:List (List D)}{e:Nat}(P:Pt τ m e A B V R1 R2)(me:m<=e)(tA:Tb τ m A)(tB:Tb τ m B)(vl:∀v∈V,m<=v.length/\v.length<=100)(o q2:D){k:KL}{r:List (Str×D)}(hk:k.length=m)(he:m+r.length=e):
  bv fu 4 10 [o,.tup [fr k r,q2],.tup [.tup (A.map .tup),.tup (B.map .tup)],.tup (V.map .tup)]=.ok (.tup [.tup (R1.map .tup),.tup (R2.map .tup)]):=by
 have b:=Cm tB.s (.tup (B.map .tup)) (.inr rfl);have ni:=λr (hr:r∈A)=>Dr tB.s (tA.s.sh r hr);have ln:=tA.s.ln;have vln:=P.s1.ln;rw[Np,Nq]at vln;have he':(m:Int)+(r.length:Int)=((e:Nat):Int):=by omega
 have s1:=FQ (V:=va e V) (T:=A.filter λa=>!decide (a.take m∈ks m B)) (F:=F1 m A B V) (R:=R1) (by
  show _=_;rw[show(va e V).map (λr=>r.take m)=ks m V from FD me V,Pu]) P.s1 (λa ha=>tA.s.sh a (List.mem_filter.mp ha).1) (Od (Ph _ _) ln) P.r1 P.p1 (.lst ((A.filter λa=>!decide (a.take m∈ks m B)).map .tup)) (.inl rfl)
 have s2:=FQ (V:=vb m e V) (T:=B) (F:=F2 m B V) (R:=R2) (by
  show _=_;rw[show(vb m e V).map (λr=>r.take m)=ks m V from Cy λv hv=>(vl v hv).1]) P.s2 tB.s.sh tB.s.ln P.r2 P.p2 (.tup (B.map .tup)) (.inr rfl)
 have c8:∀a0 a1 a2 a4 a6 a7 a8 a9:Option S,gg [none,some 5] (bc (af 3)) (gN 0) (cX) (aP (af 0) (aG) (bp (af 1))) [a0,a1,a2,‹.tup (V.map .tup)›,a4,‹.int e›,a6,a7,a8,a9]=.ok (.lst ((va e V).map .tup)):=λa0 a1 a2 a4 a6 a7 a8 a9=>by
  refine eR (ds:=V.map .tup) (by simp! only[]) (by rw[Nq];omega) ?_;rw[OL];refine oz D.tup _ V λr hr=>⟨[‹.tup r›,‹.int e›],rfl,rfl,?_⟩
  simp! only[dQ];rfl
 have c9:∀a0 a1 a2 a6 a7 a8 a9:Option S,gg [none,some 4,some 5] (bc (af 3)) (gN 0) (cX) (f2 bS (aP (af 0) (aG) (bp (af 1))) (aP (af 0) (bp (af 2)) (aG))) [a0,a1,a2,‹.tup (V.map .tup)›,‹.int m›,‹.int e›,a6,a7,a8,a9]=.ok (.lst ((vb m e V).map .tup)):=λa0 a1 a2 a6 a7 a8 a9=>by
  refine eR (ds:=V.map .tup) (by simp! only[]) (by rw[Nq];omega) ?_;rw[OL];refine oz D.tup _ V λr hr=>⟨[‹.tup r›,‹.int m›,‹.int e›],rfl,rfl,?_⟩
  have ad:=e6 (r.take m) (r.drop e) (by rw[Nh,Nt];have:=vl r hr;omega);simp! only[dQ,qT,ad];rfl
 generalize eT (ak m B)=Z at b ni;have c7:∀a0 a1 a3 a5 a7 a8 a9:Option S,gg [none,some 4,some 6] (bc (f2 aA (af 2) (fC (.int 0)))) (gN 0) (fB (f2 iH (aP (af 0) (aG) (bp (af 1))) (af 2))) (af 0) [a0,a1,‹.tup [.tup (A.map .tup),.tup (B.map .tup)]›,a3,‹.int m›,a5,‹Z›,a7,a8,a9]=.ok (.lst ((A.filter λa=>!decide (a.take m∈ks m B)).map .tup)):=λ_ _ _ _ _ _ _=>by
  refine eR (ds:=A.map .tup) (by simp! only[]) (by rw[Nq];omega) ?_;refine mX (ρ:=[none,‹.int m›,‹Z›]) (g:=gN 0) (C:=fB (f2 iH (aP (af 0) (aG) (bp (af 1))) (af 2))) (Fe:=af 0) D.tup (λa=>!decide (a.take m∈ks m B)) D.tup A λr hr=>⟨[‹.tup r›,‹.int m›,‹Z›],rfl,?_,λ_=>rfl⟩
  have:=ni r hr
  simp! only[dQ,this]
 rw[yz];unfold fu;generalize (A.filter λa=>!decide (a.take m∈ks m B)).map D.tup=WH at *;generalize (va e V).map D.tup=W1 at *;generalize (vb m e V).map D.tup=W2 at *;simp! only[t0,t1,Nq,hk,he',b,c7,c8,s1,c9,s2,uS]
theorem xl{T:List (List D)}(tl:T.length<=1000){G:av->R (List D)}{ρ:av}{i:Nat}(hG:G ρ=.ok (T.map .tup))(hi:inB [none,some i] ρ=[none,‹.int m›]):gg [none,some i] G (gN 0) (cX) (aP (af 0) (aG) (bp (af 1))) ρ=.ok (.lst ((ks m T).map .tup)):=by
 refine eR hG (by rw[Nq];omega) ?_;rw[hi,OL];refine oz D.tup _ T λr hr=>⟨[‹.tup r›,‹.int m›],rfl,rfl,?_⟩
 simp! only[dQ];rfl
end
theorem ER(w:Str)(ws:List Str):ce (.str w) (.lst (ws.map .str))=some (.bl (!ws.contains w)):=by
 have e:=Ej w ws;have e1:AV (.str w) (.lst (ws.map .str))=if(pl (.str w)&&lr (ws.map .str))&&dH 8 (.str w)then some (.bl (inD (.str w) (ws.map .str)))else none:=rfl
 have e2:ce (.str w) (.lst (ws.map .str))=if(pl (.str w)&&lr (ws.map .str))&&dH 8 (.str w)then some (.bl (!inD (.str w) (ws.map .str)))else none:=rfl
 rw[e1]at e;rw[e2];split at e
 ·rename_i z;rw[if_pos z];injection e with e;injection e with e;rw[e]
 ·cases e
def IC:Kd->D->Bool
 |.num lo hi,.int i=>!(decide (i<lo)||decide (i>hi))
 |.wrd ws,.str w=>ws.contains w
 |_,_=>true
def aF:KL->List D->Bool
 |p::k,v::vs=>IC p.2 v&&aF k vs
 |_,_=>true
def FB:cx:=(aH (bG 4 (f2 aA (af 2) (fC (.int 1)))) (aH (ik (kD (fB (f2 lg (f2 aA (af 4) (fC (.int 0))) (fC (.str "number")))) (ya (fB (f2 p3 (af 3) (f2 aA (af 4) (fC (.int 1))))) (fB (f2 Gk (af 3) (f2 aA (af 4) (fC (.int 2))))))) (bI (fC (.bl false))) (bZ)) (aH (ik (kD (fB (f2 lg (f2 aA (af 4) (fC (.int 0))) (fC (.str "word")))) (fB (f2 ce (af 3) (f2 aA (af 4) (fC (.int 1)))))) (bI (fC (.bl false))) (bZ)) (cD [2,3,4] bZ))))
theorem xM(K:Ks)(hK:∀ρ,K.nx ρ=.ok (.bl true))(v0 v1:Option S):∀(k:KL)(vs:List D),Sh (k.map (·.2.b)) (vs.take k.length)->iu (gT 2 (og [2,3])) FB K (kA (k.map kf) vs) [v0,v1,none,none,none]=.ok (.bl (aF k vs))
 |[],_,_=>hK _
 |p::k,[],h=>by cases p with|mk _ c=>cases c<;>cases h
 |p::k,v::vs,h=>by
  show((rO (gT 2 (og [2,3]) (.tup [kf p,v]) [v0,v1,none,none,none])).bind λρ1=>FB ⟨iu (gT 2 (og [2,3])) FB K (kA (k.map kf) vs),K.nx,iu (gT 2 (og [2,3])) FB K (kA (k.map kf) vs),K.ex⟩ ρ1)=_;have e:gT 2 (og [2,3]) (.tup [kf p,v]) [v0,v1,none,none,none]=some [v0,v1,‹kf p›,‹v›,none]:=rfl;have j1:aA (kf p) (.int 1)=some p.2.d:=rfl;have ih:Sh (k.map (·.2.b)) (vs.take k.length)->_:=xM K hK v0 v1 k vs;rw[e,e7,dY];obtain⟨nm,c⟩:=p;show _=Except.ok (D.bl (IC c v&&aF k vs));cases c with
  |num lo hi=>
   cases h with
   |int i h=>
    have ih:=ih h;show FB _ _=Except.ok (D.bl (!(decide (i<lo)||decide (i>hi))&&aF k vs))
    conv=>lhs;unfold FB
    cases h1:decide (i<lo)with
    |true=>simp! only[j1,Kd.d,rE,h1,NC,O5,M2]
    |false=>
     cases h2:decide (i>hi)with
     |true=>simp! only[j1,Kd.d,rE,h1,h2,ND,O5,M2]
     |false=>
      simp! only[j1,Kd.d,rE,E7,h1,h2,Bool.or_self,O6,Bool.true_and];exact ih
  |wrd ws=>
   cases h with
   |str w h=>
    have ih:=ih h;have ni:ce (.str w) (.tup (ws.map .str))=some (.bl (!ws.contains w)):=ER w ws;show FB _ _=Except.ok (D.bl (ws.contains w&&aF k vs))
    conv=>lhs;unfold FB
    cases h1:ws.contains w with
    |false=>
     rw[h1]at ni;simp! only[j1,Kd.d,vG,vh,ni,M2]
    |true=>
     rw[h1]at ni;simp! only[j1,Kd.d,vG,vh,ni,Bool.true_and];exact ih
theorem Gb{k:KL}{vs:List D}(h:Sh (k.map (·.2.b)) (vs.take k.length)):bv gL 2 5 [.tup (k.map kf),.tup vs]=.ok (.bl (aF k vs)):=by
 rw[ga];unfold gL;simp! only[uE];exact xM _ (λρ=>rfl) _ _ k vs h
theorem Ho{w:List D}(h:lr w=true):vR (.lst w) (.lst [])=some (.bl (!decide (w=[]))):=by
 have e:vR (.lst w) (.lst [])=if(pl (.lst w)&&pl (.lst []))&&(dH 8 (.lst w)||dH 8 (.lst []))then some (.bl (!pyEq (.lst w) (.lst [])))else none:=rfl
 have d:dH 8 (.lst [])=true:=rfl;have p:pl (.lst ([]:List D))=true:=rfl;rw[e,eN,h,d,p,Bool.or_true,N0,N0,if_pos rfl];cases w with
 |nil=>rw[decide_eq_true rfl,pyEq];rfl
 |cons a w=>rw[decide_eq_false (by simp),pyEq];rfl
theorem GJ{σ:List Bool}{a b:List D}(h:Sh σ a)(h':Sh σ b):vR (.tup a) (.tup b)=some (.bl (!pyEqL a b)):=by
 have e:vR (.tup a) (.tup b)=if(pl (.tup a)&&pl (.tup b))&&(dH 8 (.tup a)||dH 8 (.tup b))then some (.bl (!pyEq (.tup a) (.tup b)))else none:=rfl
 have d:dH 8 (.tup a)=true:=by show a.all (dH 7)=true;exact yL 6 h
 rw[e,de,de,wR h,wR h',d];show some (D.bl (!pyEq (.tup a) (.tup b)))=_;rw[pyEq]
section
open Classical
variable{L:List ZP}{r q:List (Str×D)}{n:Nat}
theorem Ee(l1:1<=L.length)(l8:L.length<=8)(s8:r.length+q.length<=8)(ok:Ok L)(n2:n<=2)(hr:∀f∈r,KG n f.2)(hq:∀f∈q,KG n f.2){A B W:List (List D)}(tA:Tw L r.length A)(tB:Tw L q.length B)(tW:Tw L (r.length+q.length) W)(wl:W.length<62)(x:Int)(x0:0<=x)(x1:x<2147483650):
  ∃V:List (List D),Tw L (r.length+q.length) V/\V.length<=W.length+1/\bv iq 5 10 [fr (k1 L) r,fr (k2 L) q,.tup [.tup (A.map .tup),.tup (B.map .tup)],.tup (W.map .tup),.int x]=.ok (.tup (V.map .tup)):=by
 have kb:=v8 ok l8 [] (.tup (r.map fld)) (.tup (q.map fld));rw[Nf]at kb;have kb:bv bR 2 5 [fr (k1 L) r,fr (k2 L) q]=.ok (.tup ((bk L).map kf)):=kb;have la:=tA.tb.s.ln;have lb:=tB.tb.s.ln;have sAB:∀a∈A++B++W,Sh (so L) (a.take L.length):=λa ha=>(List.mem_append.mp ha).elim (λz=>(List.mem_append.mp z).elim (tA.tb.s.sh a) (tB.tb.s.sh a)) (tW.tb.s.sh a);have ad:=e6 (A.map .tup) (B.map .tup) (by rw[Nq,Nq];omega);rw[<-N6]at ad;have ad2:=e6 ((A++B).map .tup) (W.map .tup) (by rw[Nq,Nq,Np];omega);rw[<-N6]at ad2;have abl:(A++B++W).length<=200:=by rw[Np,Np];omega
 have c7:∀a0 a1 a4 a6 a7 a8 a9:Option S,gg [none,some 5] (bc (f2 bS (f2 bS (f2 aA (af 2) (fC (.int 0))) (f2 aA (af 2) (fC (.int 1)))) (af 3))) (gN 0) (cX) (aP (af 0) (aG) (bp (af 1))) [a0,a1,‹.tup [.tup (A.map .tup),.tup (B.map .tup)]›,‹.tup (W.map .tup)›,a4,‹.int L.length›,a6,a7,a8,a9]=.ok (.lst ((ks L.length (A++B++W)).map .tup)):=λ_ _ _ _ _ _ _=>xl ‹0› (by simp! only[t0,t1,ad,ad2]) rfl;have nn:=Ho (w:=(ks L.length (A++B++W)).map .tup) (pf λx hx=>by
  obtain⟨g,hg,rfl⟩:=List.mem_map.mp hx;obtain⟨a,ha,rfl⟩:=List.mem_map.mp hg;rw[de];exact wR (sAB a ha))
 have pick:(ks L.length (A++B++W)).map D.tup≠[]->∀y:Int,∃f,Sh (so L) f/\aA (.lst ((ks L.length (A++B++W)).map .tup)) (.int (y%(((ks L.length (A++B++W)).map D.tup).length:Int)))=some (.tup f):=λne y=>by
  have ul:0<((ks L.length (A++B++W)).map D.tup).length:=List.length_pos_iff.mpr ne;have q1:=O7 y (show(((ks L.length (A++B++W)).map D.tup).length:Int)≠0 by omega);have q2:=O8 y (show(0:Int)<(((ks L.length (A++B++W)).map D.tup).length:Int)by omega);have hm:=OH (l:=(ks L.length (A++B++W)).map D.tup) (n:=(y%(((ks L.length (A++B++W)).map D.tup).length:Int)).toNat) ‹0›;obtain⟨g,hg,eg⟩:=List.mem_map.mp hm;obtain⟨a,ha,rfl⟩:=List.mem_map.mp hg;exact⟨_,sAB a ha,by rw[Gg,mz q1 q2,<-eg]⟩
 have adf:=e6 (r.map fld) (q.map fld) (by rw[Nq,Nq];omega);rw[<-N6]at adf;have g5:=gm 5;have g4:=gm 4;have g3:=gm 3;have g2:=gm 2;have d2:=gd 2;have d4:=gd 4;have d8:=gd 8;have i0:aA (fr (k1 L) r) (.int 0)=some (.tup ((k1 L).map kf)):=rfl;have i1:aA (fr (k1 L) r) (.int 1)=some (.tup (r.map fld)):=rfl;have j1:aA (fr (k2 L) q) (.int 1)=some (.tup (q.map fld)):=rfl;have kL:(k1 L).length=L.length:=Nq _;have bl:(bk L).length=L.length:=by unfold bk;rw[Nq]
 obtain⟨w,w0,w1,ew⟩:=fW x x0 ‹0›;obtain⟨h,hh0,hh1,eh⟩:∃h:Int,0<=h/\h<2147483700/\aA (.lst [.int x,.int (x%5)]) (.int (x/2%2))=some (.int h):=by
  rcases(show x/2%2=0\/x/2%2=1 by omega)with u|u<;>rw[u]
  ·exact⟨x,by omega,by omega,rfl⟩
  ·exact⟨x%5,by omega,by omega,rfl⟩
 obtain⟨vs,ev,v1,v2,v3⟩:=jT n n2 (bk L) [] ‹0› (by decide) (zM ok) (λ_ h=>nomatch h) ((bk L).map kf) (by rw[Nf,yA]) h hh0 hh1;have v1:vs.length=(bk L).length+0:=v1;rw[OT ‹0›]at v2;obtain⟨us,eu,u1,_,u3⟩:=jT n n2 [] (r++q) (by decide) (by rw[Np];exact s8) (λ_ h=>nomatch h) (λf hf=>(List.mem_append.mp hf).elim (hr f) (hq f)) ((r++q).map fld) rfl w w0 ‹0›;have u1:us.length=0+(r++q).length:=u1;rw[Np]at u1;obtain⟨F,hF⟩:∃F:cx,F=(aH (li 9 (gg [none,some 5,some 8] (bc (af 3)) (gN 0) (fB (f2 vR (aP (af 0) (aG) (bp (af 1))) (af 2))) (af 0))) (aH (ik (kD (fB (f2 Gk (f2 cw (f2 cW (af 4) (fC (.int 4))) (fC (.int 3))) (fC (.int 0)))) (eX (fR (bv gL 2 5) (ah (af 6) (ah (af 8) (aw)))))) (yf 9 fE (ah (f2 bS (af 8) (fR (bv bQ 2 2) (ah (f2 bS (f2 aA (af 0) (fC (.int 1))) (f2 aA (af 1) (fC (.int 1)))) (ah (fR (bv aJ 1 1) (ah (af 4) (aw))) (aw))))) (aw))) (bZ)) (ic 9 (bI (fR (bv bu 2 4) (ah (af 5) (ah (af 9) (aw)))))))):=⟨_,rfl⟩
 rw[C9];unfold iq;rw[<-hF];generalize fr (k1 L) r=G1 at *;generalize fr (k2 L) q=G2 at *;generalize hKS:(ks L.length (A++B++W)).map D.tup=KS at *;have rest:∀f,Sh (so L) f->∃V:List (List D),Tw L (r.length+q.length) V/\V.length<=W.length+1/\F K0 [‹G1›,‹G2›,‹.tup [.tup (A.map .tup),.tup (B.map .tup)]›,‹.tup (W.map .tup)›,‹.int x›,‹.int L.length›,‹.tup ((bk L).map kf)›,‹.lst KS›,‹.tup f›,none]=.ok (.tup (V.map .tup)):=λf hf=>by
  have fl:=hf.length;rw[vQ]at fl;have fi:=Gb (k:=bk L) (vs:=f) (by rw[bl,OT ‹0›];exact hf);have a1:=e6 f us ‹0›;obtain⟨R0,hR0⟩:∃R0,R0=W.filter λa=>!pyEqL (a.take L.length) f:=⟨_,rfl⟩
  have rl:R0.length<=W.length:=by rw[hR0];exact Ph _ _
  have h0:∀a∈R0,Rw L (r.length+q.length) a:=λa ha=>by rw[hR0]at ha;exact tW.rw a (List.mem_filter.mp ha).1
  have lc:gg [none,some 5,some 8] (bc (af 3)) (gN 0) (fB (f2 vR (aP (af 0) (aG) (bp (af 1))) (af 2))) (af 0) [‹G1›,‹G2›,‹.tup [.tup (A.map .tup),.tup (B.map .tup)]›,‹.tup (W.map .tup)›,‹.int x›,‹.int L.length›,‹.tup ((bk L).map kf)›,‹.lst KS›,‹.tup f›,none]=.ok (.lst (R0.map .tup)):=by
   refine eR (ds:=W.map .tup) (by simp! only[]) (by rw[Nq];omega) ?_;rw[hR0];refine mX (ρ:=[none,‹.int L.length›,‹.tup f›]) (g:=gN 0) (C:=fB (f2 vR (aP (af 0) (aG) (bp (af 1))) (af 2))) (Fe:=af 0) D.tup (λa=>!pyEqL (a.take L.length) f) D.tup W λa ha=>⟨[‹.tup a›,‹.int L.length›,‹.tup f›],rfl,?_,λ_=>rfl⟩
   have:=GJ (tW.tb.s.sh a ha) hf
   simp! only[dQ,this]
  have no:∀(c1 c2:Bool),(c1&&c2)=false->decide (x/4%3>0)=c1->aF (bk L) f=c2->∃V:List (List D),Tw L (r.length+q.length) V/\V.length<=W.length+1/\F K0 [‹G1›,‹G2›,‹.tup [.tup (A.map .tup),.tup (B.map .tup)]›,‹.tup (W.map .tup)›,‹.int x›,‹.int L.length›,‹.tup ((bk L).map kf)›,‹.lst KS›,‹.tup f›,none]=.ok (.tup (V.map .tup)):=λc1 c2 hc h1 h2=>by
   obtain⟨V,tV,lv,eV⟩:=mL l1 R0 h0 ‹0›;refine⟨V,tV,by omega,?_⟩;rw[hF];rw[h2]at fi;cases c1 with
   |false=>simp! only[lc,d4,g3,h1,eV]
   |true=>
    cases c2 with
    |false=>simp! only[lc,d4,g3,h1,fi,eV]
    |true=>cases hc
  cases h1:decide (x/4%3>0)with
  |false=>exact no false _ rfl h1 rfl
  |true=>
   cases h2:aF (bk L) f with
   |false=>exact no true false rfl h1 h2
   |true=>
    rw[h2]at fi;obtain⟨V,tV,lv,eV⟩:=mL l1 (R0++[f++us]) (λa ha=>by
     rcases List.mem_append.mp ha with e|e
     ·exact h0 a e
     ·rw[List.mem_singleton.mp e];exact⟨by rw[Np];omega,by rw[Pm ‹0›];exact hf,λv hv=>(List.mem_append.mp hv).elim (λz=>(t6 hf v z).of0 4) (u3 v)⟩) (by rw[Np,Nw];omega)
    rw[Np,Nw]at lv;refine⟨V,tV,by omega,?_⟩;have ap:fE (R0.map .tup) [.tup (f++us)]=some ((R0++[f++us]).map .tup):=by
     rw[kE (by rw[Nq];omega),N6];rfl
    have sm:=λK:Ks=>kr 9 fE (ah (f2 bS (af 8) (fR (bv bQ 2 2) (ah (f2 bS (f2 aA (af 0) (fC (.int 1))) (f2 aA (af 1) (fC (.int 1)))) (ah (fR (bv aJ 1 1) (ah (af 4) (aw))) (aw))))) (aw)) K [‹G1›,‹G2›,‹.tup [.tup (A.map .tup),.tup (B.map .tup)]›,‹.tup (W.map .tup)›,‹.int x›,‹.int L.length›,‹.tup ((bk L).map kf)›,‹.lst KS›,‹.tup f›,some (.own (.lst (R0.map .tup)))] (xs:=R0.map .tup) rfl;rw[hF];generalize (R0++[f++us]).map D.tup=Y1 at *;generalize R0.map D.tup=Y0 at *;simp! only[lc,d4,g3,h1,fi,sm,i1,j1,adf,ew,eu,a1,ap,eV]
 simp only[K0]at rest;by_cases hc:x%4>1/\KS≠[]
 ·obtain⟨f,hf,ef⟩:=pick hc.2 (x/8);obtain⟨V,tV,lv,er⟩:=rest f hf;have b1:decide (x%4>1)=true:=decide_eq_true hc.1;have gl:=λi=>eY (i:=i) (show(0:Int)<(KS.length:Int)by have:=List.length_pos_iff.mpr hc.2;omega);rw[decide_eq_false hc.2]at nn;refine⟨V,tV,lv,?_⟩;rw[<-er];simp! only[i0,Nq,kL,kb,c7,g5,l2,d2,g2,eh,ev,g4,b1,Hx,nn,d8,gl,ef]
 ·obtain⟨V,tV,lv,er⟩:=rest vs v2.sh;refine⟨V,tV,lv,?_⟩;rw[<-er];cases b1:decide (x%4>1)with
  |false=>simp! only[i0,Nq,kL,kb,c7,g5,l2,d2,g2,eh,ev,g4,b1]
  |true=>
   have ke:KS=[]:=Classical.byContradiction λne=>hc ⟨of_decide_eq_true b1,ne⟩;rw[decide_eq_true ke]at nn;simp! only[i0,Nq,kL,kb,c7,g5,l2,d2,g2,eh,ev,g4,b1,Hx,nn]
end
section
open Classical
variable{τ:List Bool}{m:Nat}
theorem vH{B:List (List D)}(h:So τ m B)(a:List D):jr m B a=[]\/∃c∈B,c.take m=a.take m/\jr m B a=[a++c.drop m]:=by
 by_cases e:a.take m∈B.map λr=>r.take m
 ·obtain⟨c,hc,ec⟩:=List.mem_map.mp e;exact .inr ⟨c,hc,ec,Dg h hc ec⟩
 ·exact .inl (Fy e)
theorem Kv{A B:List (List D)}{x:List D}:x∈jn m A B↔∃a∈A,∃c∈B,c.take m=a.take m/\x=a++c.drop m:=by
 unfold jn jr;rw[List.mem_flatMap];constructor
 ·rintro⟨a,ha,hx⟩;obtain⟨c,hc,rfl⟩:=List.mem_map.mp hx;obtain⟨h1,h2⟩:=List.mem_filter.mp hc;exact⟨a,ha,c,h1,of_decide_eq_true h2,rfl⟩
 ·rintro⟨a,ha,c,hc,e,rfl⟩;exact⟨a,ha,List.mem_map.mpr ⟨c,List.mem_filter.mpr ⟨hc,decide_eq_true e⟩,rfl⟩⟩
theorem Dv{B:List (List D)}(h:So τ m B):∀A:List (List D),(jn m A B).length<=A.length
 |[]=>M3 _
 |a::A=>by
  have h2:=Dv h A;unfold jn at h2 ⊢;rw[Pl,Np,NE];rcases vH h a with e|⟨c,_,_,e⟩
  ·rw[e,NF];omega
  ·rw[e,Nw];omega
theorem CY{B:List (List D)}(h:So τ m B):∀A:List (List D),wq m A->(∀a∈A,m<=a.length)->wq m (jn m A B)
 |[],_,_=>.nil
 |a::A,ri,hl=>by
  obtain⟨p1,p2⟩:=List.pairwise_cons.mp ri;have ih:=CY h A p2 λx hx=>hl x (MX _ hx);have e:jn m (a::A) B=jr m B a++jn m A B:=by unfold jn;rw[Pl]
  rw[e];refine List.pairwise_append.mpr ⟨?_,ih,λx hx y hy=>?_⟩
  ·rcases vH h a with e|⟨c,_,_,e⟩<;>rw[e]
   ·exact .nil
   ·exact OC _ _
  ·obtain⟨a',ha',c',_,_,rfl⟩:=Kv.mp hy;rcases vH h a with e|⟨c,_,_,e⟩<;>rw[e]at hx
   ·cases hx
   ·rw[List.mem_singleton.mp hx,Pn (hl a MV),Pn (hl a' (MX _ ha'))];exact p1 a' ha'
theorem BH{A B:List (List D)}(tA:Tb τ m A)(tB:Tb τ m B)(hl:∀a∈A,m<=a.length):Tb τ m (jn m A B):=
 Tb.of tA.s.t0 tA.s.hm (λx hx=>by
  obtain⟨a,ha,c,_,_,rfl⟩:=Kv.mp hx;rw[Pn (hl a ha)];exact tA.s.sh a ha) (CY tB.s A tA.ri hl) (Od (Dv tB.s A) tA.s.ln)
theorem t7{X:List (List D)}(h:X.Pairwise λa b=>a.take m≠b.take m):X.Nodup:=h.imp λ{a b} ne e=>ne (by rw[e])
theorem qL{X Y:List (List D)}(h:So τ m X)(p:Y.Perm X)(r:wq m Y):Tb τ m Y:=
 Tb.of h.t0 h.hm (λa ha=>h.sh a (p.mem_iff.mp ha)) r (by rw[p.length_eq];exact h.ln)
theorem Hj{V:List (List D)}(h:So τ m V){a b:List D}(ha:a∈V)(hb:b∈V)(e:a.take m=b.take m):a=b:=by
 have:=HC h.pw hb
 have z:a∈V.filter λx=>decide (x.take m=b.take m):=List.mem_filter.mpr ⟨ha,decide_eq_true e⟩;rw[this]at z;exact List.mem_singleton.mp z
theorem back{A B V R1 R2:List (List D)}{e:Nat}(P:Pt τ m e A B V R1 R2)(me:m<=e)(tV:Tb τ m V)(vl:∀v∈V,m<=v.length)(al:∀a∈A,m<=a.length):jn m R1 R2=V:=by
 have t1:=qL P.s1 P.p1 P.r1;have t2:=qL P.s2 P.p2 P.r2;have hl:∀a∈R1,m<=a.length:=λa ha=>by
  rcases List.mem_append.mp (P.p1.mem_iff.mp ha)with z|z
  ·obtain⟨v,hv,rfl⟩:=List.mem_map.mp z;rw[Nh];have:=vl v hv;omega
  ·exact al a (nT z).1
 have tJ:=BH t1 t2 hl;refine DA tJ.s.sh tJ.ri tV.ri ((Pw (t7 tV.s.pw) (t7 tJ.s.pw)).mpr λx=>⟨λhx=>?_,λhx=>?_⟩)
 ·refine Kv.mpr ⟨x.take e,P.p1.mem_iff.mpr (MY _ (List.mem_map.mpr ⟨x,hx,rfl⟩)),x.take m++x.drop e,P.p2.mem_iff.mpr (MY _ (List.mem_map.mpr ⟨x,hx,rfl⟩)),?_,?_⟩
  ·rw[pR (vl x hx),Pp,OW me]
  ·rw[List.drop_left' (by rw[Nh];have:=vl x hx;omega),Px]
 ·obtain⟨a,ha,c,hc,ek,rfl⟩:=Kv.mp hx;rcases List.mem_append.mp (P.p1.mem_iff.mp ha)with za|za
  ·obtain⟨v,hv,rfl⟩:=List.mem_map.mp za;rw[Pp,OW me]at ek;rcases List.mem_append.mp (P.p2.mem_iff.mp hc)with zc|zc
   ·obtain⟨w,hw,rfl⟩:=List.mem_map.mp zc;rw[pR (vl w hw)]at ek
    have:=Hj tV.s hw hv ek
    subst this;rw[List.drop_left' (by rw[Nh];have:=vl w hw;omega),Px];exact hw
   ·exact absurd (by rw[ek];exact List.mem_map.mpr ⟨v,hv,rfl⟩) (lW zc).2
  ·obtain⟨_,n1,n2⟩:=nT za;rcases List.mem_append.mp (P.p2.mem_iff.mp hc)with zc|zc
   ·obtain⟨w,hw,rfl⟩:=List.mem_map.mp zc;rw[pR (vl w hw)]at ek;exact absurd (List.mem_map.mpr ⟨w,hw,ek⟩) n1
   ·exact absurd (List.mem_map.mpr ⟨c,(lW zc).1,ek⟩) n2
theorem again{A B:List (List D)}{e:Nat}(me:m<=e)(tA:Tb τ m A)(tB:Tb τ m B)(al:∀a∈A,a.length=e)(bl:∀c∈B,m<=c.length):Pt τ m e A B (jn m A B) A B:=by
 have tW:=BH tA tB λa ha=>by rw[al a ha];exact me
 have wl:∀v∈jn m A B,m<=v.length:=λv hv=>by
  obtain⟨a,ha,c,hc,_,rfl⟩:=Kv.mp hv;rw[Np,al a ha];omega
 have row:∀a∈A,∀c∈B,c.take m=a.take m->(a++c.drop m).take e=a/\(a++c.drop m).take m++(a++c.drop m).drop e=c:=λa ha c hc ek=>by
  have h:=al a ha;refine⟨by rw[<-h,List.take_left],?_⟩;rw[<-h,List.drop_left,Pn ‹0›,<-ek,Px]
 have kW:∀f,f∈ks m (jn m A B)↔f∈ks m A/\f∈ks m B:=λf=>by
  constructor
  ·intro h;obtain⟨v,hv,rfl⟩:=List.mem_map.mp h;obtain⟨a,ha,c,hc,ek,rfl⟩:=Kv.mp hv;rw[Pn (by rw[al a ha];exact me)];exact⟨List.mem_map.mpr ⟨a,ha,rfl⟩,List.mem_map.mpr ⟨c,hc,ek⟩⟩
  ·rintro⟨h1,h2⟩;obtain⟨a,ha,rfl⟩:=List.mem_map.mp h1;obtain⟨c,hc,ek⟩:=List.mem_map.mp h2;exact List.mem_map.mpr ⟨a++c.drop m,Kv.mpr ⟨a,ha,c,hc,ek,rfl⟩,Pn (by rw[al a ha];exact me)⟩
 obtain⟨w1,w2⟩:=FH (e:=e) me tA tB tW wl;have p1:A.Perm (va e (jn m A B)++F1 m A B (jn m A B)):=by
  refine(Pw (t7 tA.s.pw) (t7 w1)).mpr λx=>⟨λhx=>?_,λhx=>?_⟩
  ·by_cases h:x.take m∈ks m B
   ·obtain⟨c,hc,ek⟩:=List.mem_map.mp h;exact MY _ (List.mem_map.mpr ⟨_,Kv.mpr ⟨x,hx,c,hc,ek,rfl⟩,(row x hx c hc ek).1⟩)
   ·refine M4 _ (List.mem_filter.mpr ⟨hx,?_⟩);rw[decide_eq_false h,decide_eq_false λz=>h ((kW _).mp z).2];rfl
  ·rcases List.mem_append.mp hx with z|z
   ·obtain⟨v,hv,rfl⟩:=List.mem_map.mp z;obtain⟨a,ha,c,hc,ek,rfl⟩:=Kv.mp hv;rw[(row a ha c hc ek).1];exact ha
   ·exact(nT z).1
 have p2:B.Perm (vb m e (jn m A B)++F2 m B (jn m A B)):=by
  refine(Pw (t7 tB.s.pw) (t7 w2)).mpr λx=>⟨λhx=>?_,λhx=>?_⟩
  ·by_cases h:x.take m∈ks m A
   ·obtain⟨a,ha,ek⟩:=List.mem_map.mp h;exact MY _ (List.mem_map.mpr ⟨_,Kv.mpr ⟨a,ha,x,hx,ek.symm,rfl⟩,(row a ha x hx ek.symm).2⟩)
   ·refine M4 _ (List.mem_filter.mpr ⟨hx,?_⟩);rw[decide_eq_false λz=>h ((kW _).mp z).1];rfl
  ·rcases List.mem_append.mp hx with z|z
   ·obtain⟨v,hv,rfl⟩:=List.mem_map.mp z;obtain⟨a,ha,c,hc,ek,rfl⟩:=Kv.mp hv;rw[(row a ha c hc ek).2];exact hc
   ·exact(lW z).1
 obtain⟨s1,s2⟩:=FK (e:=e) me tA tB tW wl (by rw[<-p1.length_eq];exact tA.s.ln) (by rw[<-p2.length_eq];exact tB.s.ln);exact⟨s1,s2,tA.ri,tB.ri,p1,p2⟩
end
section
variable{L:List ZP}{r q:List (Str×D)}
theorem IW{A B V R1 R2:List (List D)}{e:Nat}(P:Pt (so L) L.length e A B V R1 R2)(he:L.length+r.length=e)(tA:Tw L r.length A)(tB:Tw L q.length B)(tV:Tw L (r.length+q.length) V):Tw L r.length R1/\Tw L q.length R2:=by
 have t1:=qL P.s1 P.p1 P.r1;have t2:=qL P.s2 P.p2 P.r2;refine⟨⟨t1,λa ha=>?_⟩,⟨t2,λa ha=>?_⟩⟩
 ·rcases List.mem_append.mp (P.p1.mem_iff.mp ha)with z|z
  ·obtain⟨v,hv,rfl⟩:=List.mem_map.mp z;obtain⟨h1,h2,h3⟩:=tV.rw v hv;exact⟨by rw[Nh];omega,t1.s.sh _ ha,λx hx=>h3 x (Py hx)⟩
  ·exact tA.rw a (nT z).1
 ·rcases List.mem_append.mp (P.p2.mem_iff.mp ha)with z|z
  ·obtain⟨v,hv,rfl⟩:=List.mem_map.mp z;obtain⟨h1,h2,h3⟩:=tV.rw v hv;refine⟨by rw[Np,Nh,Nt];omega,t2.s.sh _ ha,λx hx=>?_⟩;rcases List.mem_append.mp hx with z|z
   ·exact h3 x (Py z)
   ·exact h3 x (Pz z)
  ·exact tB.rw a (lW z).1
end
theorem Jn{r:List D}{m:Nat}{d:D}(h:r[m]?=some d):aA (.tup r) (.int m)=some d:=by
 have hl:=cm h;rw[Jg,mz (M6 _) ‹0›];rw[NY hl]at h;exact h
theorem yU{n:Nat}(ih:∀a b,AL n a->AL n b->pyEq a b=true->a=b):∀xs ys:List D,(∀x∈xs,AL n x)->(∀y∈ys,AL n y)->pyEqL xs ys=true->xs=ys
 |[],[],_,_,_=>rfl
 |[],_::_,_,_,h=>by unfold pyEqL at h;cases h
 |_::_,[],_,_,h=>by unfold pyEqL at h;cases h
 |x::xs,y::ys,hx,hy,h=>by
  unfold pyEqL at h;rw[Nu]at h;rw[ih x y (hx x MV) (hy y MV) h.1,yU ih xs ys (λz hz=>hx z (MX _ hz)) (λz hz=>hy z (MX _ hz)) h.2]
theorem C1{a b:D}(ha:AL 0 a)(hb:AL 0 b)(h:pyEq a b=true):a=b:=by
 rcases ha with⟨i,rfl⟩|⟨x,rfl⟩<;>rcases hb with⟨j,rfl⟩|⟨y,rfl⟩<;>unfold pyEq at h
 ·rw[eq_of_beq h]
 ·cases h
 ·cases h
 ·rw[eq_of_beq h]
theorem Fv:∀n a b,AL n a->AL n b->pyEq a b=true->a=b
 |0,_,_,ha,hb,h=>C1 ha hb h
 |n+1,a,b,ha,hb,h=>by
  rcases ha with ha|⟨xs,rfl,_,hx⟩
  ·rcases hb with hb|⟨ys,rfl,_,hy⟩
   ·exact C1 ha hb h
   ·rcases ha with⟨i,rfl⟩|⟨x,rfl⟩<;>unfold pyEq at h<;>cases h
  ·rcases hb with hb|⟨ys,rfl,_,hy⟩
   ·rcases hb with⟨i,rfl⟩|⟨x,rfl⟩<;>unfold pyEq at h<;>cases h
   ·rw[pyEq]at h;rw[yU (Fv n) xs ys hx hy h]
theorem BP:∀(n g:Nat)(a:D),AL n a->n<=g->dH g a=true
 |0,g,a,ha,_=>by rcases ha with⟨i,rfl⟩|⟨x,rfl⟩<;>cases g<;>rfl
 |n+1,g,a,ha,hg=>by
  rcases ha with(⟨i,rfl⟩|⟨x,rfl⟩)|⟨xs,rfl,_,hx⟩
  ·cases g<;>rfl
  ·cases g<;>rfl
  ·obtain⟨g,rfl⟩:∃g',g=g'+1:=⟨g-1,by omega⟩
   show xs.all (dH g)=true;exact List.all_eq_true.mpr λx h=>BP n g x (hx x h) ‹0›
abbrev A4(a:List D):Prop:=∀v∈a,AL 4 v
section
open Classical
variable{τ:List Bool}{m:Nat}{T:List (List D)}{x:List D}
theorem CD(hT:∀a∈T,A4 a)(hx:A4 x):inD (.tup x) (T.map .tup)=decide (x∈T):=by
 unfold inD;rw[OM,Bool.eq_iff_iff,O9,decide_eq_true_iff];constructor
 ·rintro⟨g,hg,eq⟩;have eq:pyEq (.tup g) (.tup x)=true:=eq;rw[pyEq]at eq;rw[<-yU (Fv 4) g x (hT g hg) hx eq];exact hg
 ·intro h;exact⟨x,h,mw (.tup x)⟩
theorem zH(hT:∀a∈T,A4 a)(hx:A4 x):((pl (.tup x)&&lr (T.map .tup))&&dH 8 (.tup x))=true:=by
 have d:dH 8 (.tup x)=true:=List.all_eq_true.mpr λv h=>BP 4 7 v (hx v h) (by decide);rw[d,de,pf λv h=>Cv (hx v h),pf λd hd=>by
  obtain⟨a,ha,rfl⟩:=List.mem_map.mp hd;rw[de];exact pf λv h=>Cv (hT a ha v h)];rfl
theorem CV(hT:∀a∈T,A4 a)(hx:A4 x):ce (.tup x) (.lst (T.map .tup))=some (.bl (!decide (x∈T))):=by
 have e:ce (.tup x) (.lst (T.map .tup))=if((pl (.tup x)&&lr (T.map .tup))&&dH 8 (.tup x))=true then some (.bl (!inD (.tup x) (T.map .tup)))else none:=rfl
 rw[e,if_pos (zH hT hx),CD hT hx]
theorem L9(hT:∀a∈T,A4 a)(hx:A4 x):AV (.tup x) (.lst (T.map .tup))=some (.bl (decide (x∈T))):=by
 have e:AV (.tup x) (.lst (T.map .tup))=if((pl (.tup x)&&lr (T.map .tup))&&dH 8 (.tup x))=true then some (.bl (inD (.tup x) (T.map .tup)))else none:=rfl
 rw[e,if_pos (zH hT hx),CD hT hx]
theorem EJ(hT:∀a∈T,A4 a)(hx:A4 x):ce (.tup x) (.tup (T.map .tup))=some (.bl (!decide (x∈T))):=CV hT hx
theorem Ck(hT:∀a∈T,A4 a):∀a∈ks m T,A4 a:=λa ha v hv=>by
 obtain⟨b,hb,rfl⟩:=List.mem_map.mp ha;exact hT b hb v (Py hv)
theorem qC(h:A4 x)(k:Nat):A4 (x.take k):=λv hv=>h v (Py hv)
theorem tY(t:Tb τ m T):bv d7 2 3 [.tup (T.map .tup),.int m]=.ok (.bl true):=by
 have ln:=t.s.ln;have rn:kI [.int ((T.length:Int)-1)]=some (dM 0 (T.length-1)):=by
  show(if okR ((T.length:Int)-1)then some (dM 0 ((T.length:Int)-1).toNat)else none)=_;have o:okR ((T.length:Int)-1)=true:=decide_eq_true ⟨by omega,by omega⟩;rw[o,show((T.length:Int)-1).toNat=T.length-1 by omega];rfl
 rw[ga];unfold d7;simp! only[Nq,rn];refine dC (Q:=λz=>z=.ok (.bl true)) (λi ρ=>ρ=[‹.tup (T.map .tup)›,‹.int m›,none]) ?_ rfl ?_
 ·rintro i d ρ kk hd rfl;have hi:=cm hd;rw[cz]at hi;have hdi:d=.int (i:Int):=by
   rw[gK,Nm,Oa hi]at hd;cases hd;simp
  subst hdi;have x1:aA (.tup (T.map .tup)) (.int (i:Int))=some (.tup T[i]):=Jn (by rw[Nm,NY ‹0›];rfl);have x2:aA (.tup (T.map .tup)) (.int ((i:Int)+1))=some (.tup T[i+1]):=by
   have:(i:Int)+1=((i+1:Nat):Int):=(by omega);rw[this];exact Jn (by rw[Nm,NY ‹0›];rfl)
  have lt:=Hr (t.s.sh T[i] (OH _)) (t.s.sh T[i+1] (OH _));rw[EH.mpr (List.pairwise_iff_getElem.mp t.ri i (i+1) ‹0› ‹0› ‹0›)]at lt;refine⟨_,_,rfl,rfl,?_⟩;generalize T.map D.tup=W at *;simp! only[x1,x2,dQ,lt]
 ·rintro ρ' rfl;rfl
theorem C2{A B V R1 R2:List (List D)}{e:Nat}(P:Pt τ m e A B V R1 R2)(me:m<=e)(tA:Tb τ m A)(tB:Tb τ m B)(tV:Tb τ m V)(hA:∀a∈A,A4 a)(hB:∀a∈B,A4 a)(hV:∀a∈V,A4 a)(h1:∀a∈R1,A4 a)(h2:∀a∈R2,A4 a)(vl:∀v∈V,m<=v.length/\v.length<=100){k:KL}{r:List (Str×D)}(hk:k.length=m)(he:m+r.length=e):
  bv fJ 4 10 [fr k r,.tup [.tup (A.map .tup),.tup (B.map .tup)],.tup [.tup (R1.map .tup),.tup (R2.map .tup)],.tup (V.map .tup)]=.ok (.bl true):=by
 have la:=tA.s.ln;have lb:=tB.s.ln;have lv:=tV.s.ln;have l2':=P.s2.ln;rw[<-P.p2.length_eq]at l2';have he':(m:Int)+(r.length:Int)=((e:Nat):Int):=by omega
 have hva:∀a∈va e V,A4 a:=λa ha v hv=>by
  obtain⟨b,hb,rfl⟩:=List.mem_map.mp ha;exact hV b hb v (Py hv)
 have hvb:∀a∈vb m e V,A4 a:=λa ha v hv=>by
  obtain⟨b,hb,rfl⟩:=List.mem_map.mp ha;rcases List.mem_append.mp hv with z|z
  ·exact hV b hb v (Py z)
  ·exact hV b hb v (Pz z)
 have k2:∀f,f∈ks m R2->f∈ks m V\/f∈ks m B:=λf hf=>by
  obtain⟨c,hc,rfl⟩:=List.mem_map.mp hf;rcases List.mem_append.mp (P.p2.mem_iff.mp hc)with z|z
  ·left;rw[<-Cy (e:=e) λv hv=>(vl v hv).1];exact List.mem_map.mpr ⟨c,z,rfl⟩
  ·exact .inr (List.mem_map.mpr ⟨c,(lW z).1,rfl⟩)
 have c6:∀a0 a1 a2 a5 a6 a7 a8 a9:Option S,gg [none,some 4] (bc (af 3)) (gN 0) (cX) (aP (af 0) (aG) (bp (af 1))) [a0,a1,a2,‹.tup (V.map .tup)›,‹.int m›,a5,a6,a7,a8,a9]=.ok (.lst ((ks m V).map .tup)):=λ_ _ _ _ _ _ _ _=>xl ‹0› (by simp! only[]) rfl;have c7:∀a0 a1 a3 a5 a6 a7 a8 a9:Option S,gg [none,some 4] (bc (f2 aA (af 2) (fC (.int 1)))) (gN 0) (cX) (aP (af 0) (aG) (bp (af 1))) [a0,a1,‹.tup [.tup (R1.map .tup),.tup (R2.map .tup)]›,a3,‹.int m›,a5,a6,a7,a8,a9]=.ok (.lst ((ks m R2).map .tup)):=λ_ _ _ _ _ _ _ _=>xl ‹0› (by simp! only[]) rfl;have c5:∀a0 a1 a2 a4 a6 a7 a8 a9:Option S,gg [none,some 5] (bc (af 3)) (gN 0) (cX) (aP (af 0) (aG) (bp (af 1))) [a0,a1,a2,‹.tup (V.map .tup)›,a4,‹.int e›,a6,a7,a8,a9]=.ok (.lst ((va e V).map .tup)):=λ_ _ _ _ _ _ _ _=>xl (m:=e) ‹0› (by simp! only[]) rfl;have c9:∀a0 a1 a2 a6 a7 a8 a9:Option S,gg [none,some 4,some 5] (bc (af 3)) (gN 0) (cX) (f2 bS (aP (af 0) (aG) (bp (af 1))) (aP (af 0) (bp (af 2)) (aG))) [a0,a1,a2,‹.tup (V.map .tup)›,‹.int m›,‹.int e›,a6,a7,a8,a9]=.ok (.lst ((vb m e V).map .tup)):=λa0 a1 a2 a6 a7 a8 a9=>by
  refine eR (ds:=V.map .tup) (by simp! only[]) (by rw[Nq];omega) ?_;rw[OL];refine oz D.tup _ V λr hr=>⟨[‹.tup r›,‹.int m›,‹.int e›],rfl,rfl,?_⟩
  have ad:=e6 (r.take m) (r.drop e) (by rw[Nh,Nt];have:=vl r hr;omega);simp! only[dQ,qT,ad];rfl
 have i0:aA (fr k r) (.int 0)=some (.tup (k.map kf)):=rfl;have i1:aA (fr k r) (.int 1)=some (.tup (r.map fld)):=rfl;have n1:=λx (hx:A4 x)=>CV hva hx;have n2:=λx (hx:A4 x)=>EJ hA hx;have n3:=λx (hx:A4 x)=>L9 (Ck (m:=m) h2) hx;have n4:=λx (hx:A4 x)=>CV hvb hx;have n5:=λx (hx:A4 x)=>EJ hB hx;have n6:=λx (hx:A4 x)=>CV (Ck (m:=m) hV) hx;have n7:=λx (hx:A4 x)=>EJ h2 hx;have n8:=λx (hx:A4 x)=>CV (Ck (m:=m) hB) hx;have n9:=λx (hx:A4 x)=>EJ h1 hx;obtain⟨Z1,hZ1⟩:∃Z1:cx,Z1=(cD [0,7] (aH (fT (bc (f2 aA (af 2) (fC (.int 1)))) (gN 8) (ik (kD (fB (f2 ce (af 8) (gg [none,some 4,some 5] (bc (af 3)) (gN 0) (cX) (f2 bS (aP (af 0) (aG) (bp (af 1))) (aP (af 0) (bp (af 2)) (aG)))))) (fB (f2 ce (af 8) (f2 aA (af 1) (fC (.int 1)))))) (bI (fC (.bl false))) (bZ))) (cD [0,3,5,7] (aH (fT (bc (f2 aA (af 1) (fC (.int 1)))) (gN 8) (ik (kD (fB (f2 ce (aP (af 8) (aG) (bp (af 4))) (af 6))) (fB (f2 ce (af 8) (f2 aA (af 2) (fC (.int 1)))))) (bI (fC (.bl false))) (bZ))) (aH (bG 9 (gg [none,some 4,some 1] (bc (f2 aA (af 1) (fC (.int 0)))) (gN 0) (fB (f2 ce (aP (af 0) (aG) (bp (af 1))) (gg [none,some 1] (bc (f2 aA (af 2) (fC (.int 1)))) (gN 0) (cX) (aP (af 0) (aG) (bp (af 1)))))) (af 0))) (cD [0,1,3,5,7,8] (aH (fT (bc (af 9)) (gN 8) (aH (ik (kD (fB (f2 ce (aP (af 8) (aG) (bp (af 4))) (af 6))) (fB (f2 ce (af 8) (f2 aA (af 2) (fC (.int 0)))))) (bI (fC (.bl false))) (bZ)) (cD [8] bZ))) (bI (fC (.bl true)))))))))):=⟨_,rfl⟩
 obtain⟨Z2,hZ2⟩:∃Z2:cx,Z2=(cD [0,3,5,7] (aH (fT (bc (f2 aA (af 1) (fC (.int 1)))) (gN 8) (ik (kD (fB (f2 ce (aP (af 8) (aG) (bp (af 4))) (af 6))) (fB (f2 ce (af 8) (f2 aA (af 2) (fC (.int 1)))))) (bI (fC (.bl false))) (bZ))) (aH (bG 9 (gg [none,some 4,some 1] (bc (f2 aA (af 1) (fC (.int 0)))) (gN 0) (fB (f2 ce (aP (af 0) (aG) (bp (af 1))) (gg [none,some 1] (bc (f2 aA (af 2) (fC (.int 1)))) (gN 0) (cX) (aP (af 0) (aG) (bp (af 1)))))) (af 0))) (cD [0,1,3,5,7,8] (aH (fT (bc (af 9)) (gN 8) (aH (ik (kD (fB (f2 ce (aP (af 8) (aG) (bp (af 4))) (af 6))) (fB (f2 ce (af 8) (f2 aA (af 2) (fC (.int 0)))))) (bI (fC (.bl false))) (bZ)) (cD [8] bZ))) (bI (fC (.bl true)))))))):=⟨_,rfl⟩
 obtain⟨Z3,hZ3⟩:∃Z3:cx,Z3=(aH (bG 9 (gg [none,some 4,some 1] (bc (f2 aA (af 1) (fC (.int 0)))) (gN 0) (fB (f2 ce (aP (af 0) (aG) (bp (af 1))) (gg [none,some 1] (bc (f2 aA (af 2) (fC (.int 1)))) (gN 0) (cX) (aP (af 0) (aG) (bp (af 1)))))) (af 0))) (cD [0,1,3,5,7,8] (aH (fT (bc (af 9)) (gN 8) (aH (ik (kD (fB (f2 ce (aP (af 8) (aG) (bp (af 4))) (af 6))) (fB (f2 ce (af 8) (f2 aA (af 2) (fC (.int 0)))))) (bI (fC (.bl false))) (bZ)) (cD [8] bZ))) (bI (fC (.bl true)))))):=⟨_,rfl⟩
 rw[yz];unfold fJ;rw[<-hZ1];rw[<-hZ2]at hZ1;rw[<-hZ3]at hZ2;generalize fr k r=Fk at *;simp! only[i0,i1,Nq,hk,he',c6,t1,c7,t0];refine dC (Q:=λz=>z=.ok (.bl true)) (λi ρ=>∃x8,ρ=[none,‹.tup [.tup (A.map .tup),.tup (B.map .tup)]›,‹.tup [.tup (R1.map .tup),.tup (R2.map .tup)]›,‹.tup (V.map .tup)›,‹.int m›,‹.int e›,‹.lst ((ks m V).map .tup)›,‹.lst ((ks m R2).map .tup)›,x8,none]) ?_ ⟨_,rfl⟩ ?_
 ·rintro i d ρ kk hd ⟨x8,rfl⟩;have hi:=cm hd;rw[Nq]at hi;rw[Nm,NY hi]at hd;cases hd;have hm:R1[i]∈R1:=OH hi;generalize R1[i]=a at hm;have y1:=n1 a (h1 a hm);refine⟨_,_,rfl,⟨‹.tup a›,rfl⟩,?_⟩;by_cases z:a∈va e V
  ·rw[decide_eq_true z]at y1;simp! only[c5,y1]
  ·rw[decide_eq_false z]at y1;obtain⟨q1,q2,q3⟩:=nT ((List.mem_append.mp (P.p1.mem_iff.mp hm)).resolve_left z);have y2:=n2 a (h1 a hm);rw[decide_eq_true q1]at y2;have y3:=n3 (a.take m) (qC (h1 a hm) m);rw[decide_eq_false λz=>(k2 _ z).elim q2 q3]at y3;simp! only[c5,y1,t0,y2,dQ,y3]
 rintro ρ' ⟨x8,rfl⟩;rw[hZ1];simp! only[t1];refine dC (Q:=λz=>z=.ok (.bl true)) (λi ρ=>∃x8,ρ=[none,‹.tup [.tup (A.map .tup),.tup (B.map .tup)]›,‹.tup [.tup (R1.map .tup),.tup (R2.map .tup)]›,‹.tup (V.map .tup)›,‹.int m›,‹.int e›,‹.lst ((ks m V).map .tup)›,none,x8,none]) ?_ ⟨_,rfl⟩ ?_
 ·rintro i d ρ kk hd ⟨x8,rfl⟩;have hi:=cm hd;rw[Nq]at hi;rw[Nm,NY hi]at hd;cases hd;have hm:R2[i]∈R2:=OH hi;generalize R2[i]=a at hm;have y1:=n4 a (h2 a hm);refine⟨_,_,rfl,⟨‹.tup a›,rfl⟩,?_⟩;by_cases z:a∈vb m e V
  ·rw[decide_eq_true z]at y1;simp! only[c9,y1]
  ·rw[decide_eq_false z]at y1;have y2:=n5 a (h2 a hm);rw[decide_eq_true (lW ((List.mem_append.mp (P.p2.mem_iff.mp hm)).resolve_left z)).1]at y2;simp! only[c9,y1,t1,y2]
 rintro ρ' ⟨x8,rfl⟩;rw[hZ2];simp! only[t1];refine dC (Q:=λz=>z=.ok (.bl true)) (λi ρ=>∃x8,ρ=[none,‹.tup [.tup (A.map .tup),.tup (B.map .tup)]›,‹.tup [.tup (R1.map .tup),.tup (R2.map .tup)]›,none,‹.int m›,none,‹.lst ((ks m V).map .tup)›,none,x8,none]) ?_ ⟨_,rfl⟩ ?_
 ·rintro i d ρ kk hd ⟨x8,rfl⟩;have hi:=cm hd;rw[Nq]at hi;rw[Nm,NY hi]at hd;cases hd;have hm:B[i]∈B:=OH hi;generalize B[i]=a at hm;have y1:=n6 (a.take m) (qC (hB a hm) m);refine⟨_,_,rfl,⟨‹.tup a›,rfl⟩,?_⟩;by_cases z:a.take m∈ks m V
  ·rw[decide_eq_true z]at y1;simp! only[dQ,y1]
  ·rw[decide_eq_false z]at y1;have y2:=n7 a (hB a hm);rw[decide_eq_true (P.p2.mem_iff.mpr (M4 _ (List.mem_filter.mpr ⟨hm,by rw[decide_eq_false z];rfl⟩)))]at y2;simp! only[dQ,y1,t1,y2]
 rintro ρ' ⟨x8,rfl⟩;obtain⟨H,hH⟩:∃H,H=A.filter λa=>!decide (a.take m∈ks m B):=⟨_,rfl⟩
 have c8:∀a0 a2 a3 a5 a6 a7 a8 a9:Option S,gg [none,some 4,some 1] (bc (f2 aA (af 1) (fC (.int 0)))) (gN 0) (fB (f2 ce (aP (af 0) (aG) (bp (af 1))) (gg [none,some 1] (bc (f2 aA (af 2) (fC (.int 1)))) (gN 0) (cX) (aP (af 0) (aG) (bp (af 1)))))) (af 0) [a0,‹.tup [.tup (A.map .tup),.tup (B.map .tup)]›,a2,a3,‹.int m›,a5,a6,a7,a8,a9]=.ok (.lst (H.map .tup)):=λ_ _ _ _ _ _ _ _=>by
  refine eR (ds:=A.map .tup) (by simp! only[t0]) (by rw[Nq];omega) ?_;rw[hH];refine mX (ρ:=[none,‹.int m›,‹.tup [.tup (A.map .tup),.tup (B.map .tup)]›]) (g:=gN 0) (C:=fB (f2 ce (aP (af 0) (aG) (bp (af 1))) (gg [none,some 1] (bc (f2 aA (af 2) (fC (.int 1)))) (gN 0) (cX) (aP (af 0) (aG) (bp (af 1)))))) (Fe:=af 0) D.tup (λa=>!decide (a.take m∈ks m B)) D.tup A λa ha=>⟨[‹.tup a›,‹.int m›,‹.tup [.tup (A.map .tup),.tup (B.map .tup)]›],rfl,?_,λ_=>rfl⟩
  have y:=n8 (a.take m) (qC (hA a ha) m);have lc:=xl (m:=m) (T:=B) ‹0› (G:=bc (f2 aA (af 2) (fC (.int 1)))) (ρ:=[‹.tup a›,‹.int m›,‹.tup [.tup (A.map .tup),.tup (B.map .tup)]›]) (i:=1) (by simp! only[t1]) rfl;simp! only[dQ,lc,y]
 rw[hZ3];simp! only[c8];refine dC (Q:=λz=>z=.ok (.bl true)) (λi ρ=>ρ=[none,none,‹.tup [.tup (R1.map .tup),.tup (R2.map .tup)]›,none,‹.int m›,none,‹.lst ((ks m V).map .tup)›,none,none,‹.lst (H.map .tup)›]) ?_ rfl ?_
 ·rintro i d ρ kk hd rfl;have hi:=cm hd;rw[Nq]at hi;rw[Nm,NY hi]at hd;cases hd;have hm:H[i]∈H:=OH hi;generalize H[i]=a at hm;rw[hH]at hm;obtain⟨q1,q2⟩:=List.mem_filter.mp hm;have y1:=n6 (a.take m) (qC (hA a q1) m);refine⟨_,_,rfl,rfl,?_⟩;by_cases z:a.take m∈ks m V
  ·rw[decide_eq_true z]at y1;simp! only[dQ,y1]
  ·rw[decide_eq_false z]at y1;have y2:=n9 a (hA a q1);rw[decide_eq_true (P.p1.mem_iff.mpr (M4 _ (List.mem_filter.mpr ⟨q1,by rw[decide_eq_false z,q2];rfl⟩)))]at y2;simp! only[dQ,y1,t0,y2]
 rintro ρ' rfl;rfl
end
abbrev jo:D:=.obj "Join" [] []
theorem mJ{w:Str}{g1 g2:List D->R D}{fo:FX}{fas:av->R (List D)}{ρ:av}{as:List D}(h:fo ρ=.ok jo)(ha:fas ρ=.ok as):lE w [("Pair",g1),("Join",g2)] fo fas ρ=g2 (jo::as):=by
 unfold lE;rw[h,dY];have h1:(("Join":Str)==("Pair":Str))=false:=by decide +kernel
 have hm:([]:List Str).contains w=false:=rfl
 have:List.lookup ("Join":Str) [(("Pair":Str),g1),(("Join":Str),g2)]=some g2:=by
  rw[NN,h1,NN,BEq.rfl]
 simp only[this,hm,ha,dY];rfl
theorem G8{A:List (List D)}(al:A.length<=1000)(h:∀a∈A,a.length<=100/\∀v∈a,AL 4 v):AL 6 (.tup (A.map .tup)):=
 AL.tup (by rw[Nq];omega) λy hy=>by
  obtain⟨a,ha,rfl⟩:=List.mem_map.mp hy;exact AL.tup (by have:=(h a ha).1;omega) (h a ha).2
noncomputable abbrev PT:List (Str×(List D->R D)):=[("Pair",(bv iR 4 4)),("Join",(bv fu 4 10))]
abbrev GT:List (Str×(List D->R D)):=[("Pair",(bv gF 3 3)),("Join",(bv eP 3 5))]
theorem Tw.AL{L:List ZP}{w:Nat}{A:List (List D)}(l8:L.length+w<=100)(t:Tw L w A):T4.AL 6 (.tup (A.map .tup)):=G8 (by have:=t.tb.s.ln;omega) λa ha=>⟨by have:=(t.rw a ha).1;omega,(t.rw a ha).2.2⟩
theorem xH{g:GF}{B:cx}{k:Ks}{Q:R D->Prop}(Iv:av->Prop):∀(ds:List D)(ρ:av),(∀(j:Nat) d ρ (k':Ks),ds[j]?=some d->Iv ρ->∃ρ1,g d ρ=some ρ1/\(Q (B k' ρ1)\/∃ρ2,Iv ρ2/\B k' ρ1=k'.nx ρ2))->Iv ρ->(∀ρ',Iv ρ'->Q (k.nx ρ'))->Q (iu g B k ds ρ)
 |[],ρ,_,h,q=>q ρ h
 |d::ds,ρ,st,h,q=>by
  show Q ((rO (g d ρ)).bind λρ1=>B ⟨iu g B k ds,k.nx,iu g B k ds,k.ex⟩ ρ1);obtain⟨ρ1,e1,z⟩:=st 0 d ρ ⟨iu g B k ds,k.nx,iu g B k ds,k.ex⟩ rfl h;rw[e1,e7,dY];rcases z with z|⟨ρ2,i2,e2⟩
  ·exact z
  ·rw[e2];exact xH Iv ds ρ2 (λj d ρ k' hd=>st (j+1) d ρ k' hd) i2 q
section
open Classical
variable{τ:List Bool}{m:Nat}
theorem BJ{B:List (List D)}(h:So τ m B):∀A:List (List D),(jn m A B).length+(A.filter λa=>!decide (a.take m∈ks m B)).length<=A.length
 |[]=>M3 _
 |a::A=>by
  have h2:=BJ h A;unfold jn at h2 ⊢;rw[Pl,Np,NE];rcases vH h a with e|⟨c,hc,ec,e⟩
  ·rw[e,NF]
   have:=Ph (λa=>!decide (a.take m∈ks m B)) [a]
   rw[show a::A=[a]++A from rfl,List.filter_append,Np];rw[Nw]at this;omega
  ·rw[e,Nw,OG (by rw[decide_eq_true (List.mem_map.mpr ⟨c,hc,ec⟩)];simp)];omega
theorem GB(A B V:List (List D)):(F1 m A B V).length<=(A.filter λa=>!decide (a.take m∈ks m B)).length:=by
 show(A.filter λa=>!decide (a.take m∈ks m V)&&!decide (a.take m∈ks m B)).length<=_;rw[<-Pu];exact Ph _ _
end
theorem math(ns:List Int)(hl:ns.length<=63):bv qR 1 9 [.lst (ns.map .int)]=.ok (.bl true):=by
 obtain⟨L,r,q,n,l1,l8,s8,ok,n2,hr,hq,_,ej⟩:=AA ns;obtain⟨A0,B0,tA0,tB0,la0,lb0,et⟩:=A6 (ns.take 12) l1 l8 ‹0› ‹0› ok n2 hr hq 10 (by decide) (by decide);obtain⟨e,he⟩:∃e,L.length+r.length=e:=⟨_,rfl⟩
 have me:L.length<=e:=by omega
 have kL:(k1 L).length=L.length:=Nq _;have ct:cutD (ns.map D.int) none (some 12)=(ns.take 12).map .int:=by
  have:=dQ (ns.map D.int) 12
  rw[<-List.map_take]at this;exact this
 obtain⟨N,hN,rn⟩:∃N:Nat,N<=40/\∀e1 e2:Int,nM [.int (ns.length:Int),.int 15]=some (.int e1)->qg [.int e1,.int 52]=some (.int e2)->oQ [.int 12,.int e2]=some (dM 12 N):=by
  refine⟨((if(52:Int)<(if(15:Int)>(ns.length:Int)then 15 else(ns.length:Int))then 52 else(if(15:Int)>(ns.length:Int)then 15 else(ns.length:Int)))-12).toNat,?_,λe1 e2 h1 h2=>?_⟩
  ·split<;>split<;>omega
  ·rw[iU]at h1;cases h1;rw[ju]at h2;cases h2;generalize he:(if(52:Int)<(if(15:Int)>(ns.length:Int)then 15 else(ns.length:Int))then 52 else(if(15:Int)>(ns.length:Int)then 15 else(ns.length:Int)))=e;have e2:12<=e/\e<=60:=(by rw[<-he];split<;>split<;>omega);show(if okR 12&&okR e then some (dM 12 ((e-12).toNat))else none)=_;have o1:okR 12=true:=decide_eq_true ⟨by decide,by decide⟩;have o2:okR e=true:=decide_eq_true ⟨by omega,by omega⟩;rw[o1,o2];rfl
 have mx:=iU (ns.length:Int) 15;have rn:=rn _ _ mx (ju _ _);have un2:∀(a b:D)(ρ:av),gT 2 (og [1,2]) (.tup [a,b]) ρ=some (setV 2 b (setV 1 a ρ)):=λ_ _ _=>rfl;have evU:∀(f:FX)(g:GF)(k:Ks)(ρ:av),D4 f g k ρ=sL (f ρ) k ρ λd=>(rO (g d ρ)).bind k.nx:=λ_ _ _ _=>rfl;have i0:aA (fr (k1 L) r) (.int 0)=some (.tup ((k1 L).map kf)):=rfl;have w1:∀{w:Nat}{T:List (List D)},w<=8->Tw L w T->∀a∈T,a.length<=100:=λhw t a h=>by have:=(t.rw a h).1;omega
 rw[pC];unfold qR;obtain⟨G1,hG1⟩:∃G,G=fr (k1 L) r:=⟨_,rfl⟩
 obtain⟨G2,hG2⟩:∃G,G=fr (k2 L) q:=⟨_,rfl⟩
 rw[<-hG1]at ej et i0;rw[<-hG2]at ej et;simp! only[evU,ej,un2,i0,Nq,kL,ct,et,rn];refine xH (Q:=λz=>z=.ok (.bl true)) (λρ=>∃A B,Tw L r.length A/\Tw L q.length B/\A.length+B.length<=60/\ρ=[‹.lst (ns.map .int)›,‹G1›,‹G2›,‹.int L.length›,‹.tup [.tup (A.map .tup),.tup (B.map .tup)]›,‹jo›,none,none,none]) _ _ ?_ ⟨A0,B0,tA0,tB0,by omega,rfl⟩ ?_
 ·rintro j d ρ kk hd ⟨A,B,tA,tB,lAB,rfl⟩;have hi:=cm hd;rw[cz]at hi;have hdi:d=.int ((12+j:Nat):Int):=by
   rw[gK,Nm,Oa hi]at hd;cases hd;simp
  subst hdi;obtain⟨x,x0,x1,ex⟩:=vv ns (12+j) ‹0›;have wA:=w1 ‹0› tA;have wB:=w1 ‹0› tB;have aml:∀a∈A,L.length<=a.length:=λa h=>by have:=(tA.rw a h).1;omega
  have tbW:=BH tA.tb tB.tb aml;have tW:Tw L (r.length+q.length) (jn L.length A B):=⟨tbW,λv hv=>⟨by
   obtain⟨a,ha,c,hc,_,rfl⟩:=Kv.mp hv;rw[Np,Nt]
   have:=(tA.rw a ha).1
   have:=(tB.rw c hc).1
   omega,tbW.s.sh v hv,λy hy=>by
   obtain⟨a,ha,c,hc,_,rfl⟩:=Kv.mp hv;rcases List.mem_append.mp hy with z|z
   ·exact(tA.rw a ha).2.2 y z
   ·exact(tB.rw c hc).2.2 y (Pz z)⟩⟩
  have wle:=Dv tB.tb.s A;obtain⟨V,tV,lv,eV⟩:=Ee l1 l8 s8 ok n2 hr hq tA tB tW ‹0› x x0 ‹0›;have wV:∀v∈V,L.length<=v.length/\v.length<=100:=λv h=>by have:=(tV.rw v h).1;omega
  have jt:=BJ tB.tb.s A;have ft:=GB (m:=L.length) A B V;have f2l:=Hl (m:=L.length) B V;obtain⟨s1,s2⟩:=FK (e:=e) me tA.tb tB.tb tV.tb (λv h=>(wV v h).1) (by rw[Np,Nq];omega) (by rw[Np,Nq];omega);obtain⟨R1,r1,p1⟩:=s1.srt;obtain⟨R2,r2,p2⟩:=s2.srt;have P:Pt (so L) L.length e A B V R1 R2:=⟨s1,s2,r1,r2,p1,p2⟩
  obtain⟨u1,u2⟩:=IW P he tA tB tV;have g0:=Bx tA.tb.s.sh tA.tb.s.ln wA tB.tb.s wB jo (fr (k2 L) q) (k:=k1 L) (r:=r) kL;have pt:=Gc P me tA.tb tB.tb wV jo (fr (k2 L) q) (k:=k1 L) (r:=r) kL he;have g1:=Bx u1.tb.s.sh u1.tb.s.ln (w1 ‹0› u1) u2.tb.s (w1 ‹0› u2) jo (fr (k2 L) q) (k:=k1 L) (r:=r) kL;rw[back P me tV.tb (λv h=>(wV v h).1) aml]at g1;have ri1:=tY u1.tb;have ri2:=tY u2.tb;have al:=yR 6 12 _ (by decide) (tV.AL ‹0›);have st:=C2 P me tA.tb tB.tb tV.tb (λa h=>(tA.rw a h).2.2) (λa h=>(tB.rw a h).2.2) (λa h=>(tV.rw a h).2.2) (λa h=>(u1.rw a h).2.2) (λa h=>(u2.rw a h).2.2) wV (k:=k1 L) (r:=r) kL he;rw[<-hG1]at eV g0 pt g1 st;rw[<-hG2]at eV g0 pt g1;have ty:∀a b:D,nU "tuple" (.tup [a,b])=some (.bl true):=λ_ _=>rfl;have n22:(((2:Nat):Int)==2)=true:=rfl;have l1':(R1.map D.tup).length=R1.length:=Nq _;have l2':(R2.map D.tup).length=R2.length:=Nq _;generalize (jn L.length A B).map D.tup=WJ at *;generalize A.map D.tup=WA at *;generalize B.map D.tup=WB at *;generalize V.map D.tup=WV at *;have m7:∀a0 a3 a6 a7 a8:Option S,lE "got" GT (af 5) (ah (cF (ah (af 1) (ah (af 2) (aw)))) (ah (af 4) (aw))) [a0,‹G1›,‹G2›,a3,‹.tup [.tup WA,.tup WB]›,‹jo›,a6,a7,a8]=.ok (.tup WJ):=λ_ _ _ _ _=>(mJ rfl (by simp! only[uS])).trans g0;have m8:∀a0 a3 a6 a8:Option S,lE "put" PT (af 5) (ah (cF (ah (af 1) (ah (af 2) (aw)))) (ah (af 4) (ah (af 7) (aw)))) [a0,‹G1›,‹G2›,a3,‹.tup [.tup WA,.tup WB]›,‹jo›,a6,‹.tup WV›,a8]=.ok (.tup [.tup (R1.map .tup),.tup (R2.map .tup)]):=λ_ _ _ _=>(mJ rfl (by simp! only[uS])).trans pt;have m9:∀a0 a3 a4 a6 a7:Option S,lE "got" GT (af 5) (ah (cF (ah (af 1) (ah (af 2) (aw)))) (ah (af 8) (aw))) [a0,‹G1›,‹G2›,a3,a4,‹jo›,a6,a7,‹.tup [.tup (R1.map .tup),.tup (R2.map .tup)]›]=.ok (.tup WV):=λ_ _ _ _ _=>(mJ rfl (by simp! only[uS])).trans g1;refine⟨_,rfl,?_⟩;cases hb:decide ((R1.length:Int)+(R2.length:Int)>60)with
  |true=>
   left;simp! only[m7,ex,eV,m8,ty,n22,t0,ri1,t1,ri2,m9,al,st,l1',l2',hb]
  |false=>
   right;refine⟨_,⟨R1,R2,u1,u2,by have:=of_decide_eq_false hb;omega,rfl⟩,?_⟩;simp! only[m7,ex,eV,m8,ty,n22,t0,ri1,t1,ri2,m9,al,st,l1',l2',hb]
 ·rintro ρ' ⟨A,B,_,_,_,rfl⟩;rfl
end Tk56
open PySem PySem.W PyProof.Rows
theorem PySem.W.Fast.tw17369342975557228672 : True := trivial
theorem PySem.W.Fast.tw7470377933051118185 : True := trivial
theorem PySem.W.Fast.tw6020251357084137805 : True := trivial
theorem PySem.W.Fast.tw14745069382668061243 : True := trivial
theorem PySem.W.Fast.tw455029274785054741 : True := trivial
theorem PySem.W.Fast.tw2755803959806407251 : True := trivial
theorem PySem.W.Fast.tw6125141304921707625 : True := trivial
theorem PySem.W.Fast.tw16056454602238075224 : True := trivial
theorem PySem.W.Fast.tw6535349110487259877 : True := trivial
theorem PySem.W.Fast.tw15655055790329687169 : True := trivial
theorem PySem.W.Fast.tw5615431383450392517 : True := trivial
theorem PySem.W.Fast.tw18079050721245006193 : True := trivial
theorem PySem.W.Fast.tw12119802982118890538 : True := trivial
theorem PySem.W.Fast.tw3532623404849780947 : True := trivial
theorem PySem.W.Fast.tw4462551038901705009 : True := trivial
theorem PySem.W.Fast.tw15240741572049860884 : True := trivial
theorem PySem.W.Fast.tw10422345115194275126 : True := trivial
theorem PySem.W.Fast.tw16289750775634712011 : True := trivial
theorem PySem.W.Fast.tw10375311599583447477 : True := trivial
theorem PySem.W.Fast.tw4268594703189484695 : True := trivial
theorem PySem.W.Fast.tw394704700572780161 : True := trivial
theorem PySem.W.Fast.tw9811873035533462477 : True := trivial
theorem PySem.W.Fast.tw18390452880484695936 : True := trivial
theorem PySem.W.Fast.tw7185006165943588308 : True := trivial
theorem PySem.W.Fast.tw14952574477143828763 : True := trivial
theorem PySem.W.Fast.tw14439864771019114397 : True := trivial
theorem PySem.W.Fast.tw10623537619415461232 : True := trivial
theorem PySem.W.Fast.tw7035835185057261766 : True := trivial
theorem PySem.W.Fast.tw18255071806929982560 : True := trivial
theorem PySem.W.Fast.tw18091473714843573234 : True := trivial
theorem PySem.W.Fast.tw8286583269841335778 : True := trivial
theorem PySem.W.Fast.tw13061736439588472247 : True := trivial
theorem PySem.W.Fast.tw3052150735033986070 : True := trivial
theorem PySem.W.Fast.tw7880667426732885178 : True := trivial
theorem PySem.W.Fast.tw2887540330167268735 : True := trivial
theorem PySem.W.Fast.tw17541237853440622431 : True := trivial
theorem PySem.W.Fast.tw16549979785884883723 : True := trivial
theorem PySem.W.Fast.tw6293327106509539373 : True := trivial
theorem PySem.W.Fast.tw81402636012857473 : True := trivial
theorem PySem.W.Fast.tw12242612793343173760 : True := trivial
theorem PySem.W.Fast.tw14501253525338021047 : True := trivial
theorem PySem.W.Fast.tw10044530135885077155 : True := trivial
theorem PySem.W.Fast.tw10945046986803955586 : True := trivial
theorem PySem.W.Fast.tw13945202498973108889 : True := trivial
theorem PySem.W.Fast.tw11587643804957372858 : True := trivial
theorem PySem.W.Fast.tw10771196446953192837 : True := trivial
theorem PySem.W.Fast.tw12920080525749102137 : True := trivial
theorem PySem.W.Fast.tw7404979705885113698 : True := trivial
theorem PySem.W.Fast.tw10550315612824148169 : True := trivial
theorem PySem.W.Fast.tw17648808666571942969 : True := trivial
theorem PySem.W.Fast.tw3600971426496361472 : True := trivial
theorem PySem.W.Fast.tw890453579308996192 : True := trivial
theorem PySem.W.Fast.tw5595980213082472611 : True := trivial
theorem PySem.W.Fast.tw10755263152729116360 : True := trivial
theorem PySem.W.Fast.tw11147632531900117112 : True := trivial
theorem PySem.W.Fast.tw15990492347979276558 : True := trivial
theorem PySem.W.Fast.tw6339352062736447837 : True := trivial
theorem PySem.W.Fast.tw15244019374373493919 : True := trivial
theorem PySem.W.Fast.tw15526836363681147314 : True := trivial
theorem PySem.W.Fast.tw8669636074989677563 : True := trivial
theorem PySem.W.Fast.tw15343171577479700737 : True := trivial
theorem PySem.W.Fast.tw7244712857262137170 : True := trivial
theorem PySem.W.Fast.tw5670774929720606606 : True := trivial
theorem PySem.W.Fast.tw17686163123875885032 : True := trivial
theorem PySem.W.Fast.tw12512821261539864456 : True := trivial
theorem PySem.W.Fast.tw8517773555795401429 : True := trivial
theorem PySem.W.Fast.tw14786792003239930062 : True := trivial
theorem PySem.W.Fast.tw3658932268561843346 : True := trivial
theorem PySem.W.Fast.tw8023321968922393171 : True := trivial
theorem PySem.W.Fast.tw8030183758467450881 : True := trivial
theorem PySem.W.Fast.tw2021348665373031151 : True := trivial
theorem PySem.W.Fast.tw13401973116615326545 : True := trivial
theorem PySem.W.Fast.tw9609762915270541115 : True := trivial
theorem PySem.W.Fast.tw5006239625951783174 : True := trivial
theorem PySem.W.Fast.tw8300990775931814161 : True := trivial
theorem PySem.W.Fast.tw13469138970215369827 : True := trivial
set_option maxRecDepth 100000 in
set_option maxHeartbeats 0 in
theorem PySem.Challenge.cw_twoglass_k56_whole_joins_written_holds : PySem.Challenge.rw_twoglass_k56_whole_joins_written.Holds := by
  w_on; o_law; k_head; (case hw => w_witness2)
  k_fill
  refine Tk56.walk (l := PySem.Challenge.rw_twoglass_k56_whole_joins_written) rfl rfl (fun w h Y => ⟨PySem.W.km_in_of Y, PySem.W.km_tabs_of Y _ (List.Mem.head _)⟩) ?F Tk56.math
  case F =>
    intro w mg fa h KX G hmg
    refine' Tk56.all_mk KX G hmg ?ac0 ?ac1 ?a0 ?l0 ?c0 ?k0 ?a1 ?l1 ?c1 ?k1 ?a2 ?i2 ?l2 ?c2 ?k2 ?a3 ?l3 ?c3 ?k3 ?a4 ?i4 ?l4 ?c4 ?k4 ?a5 ?l5 ?c5 ?k5 ?a6 ?i6 ?l6 ?c6 ?k6 ?a7 ?l7 ?c7 ?k7 ?a8 ?l8 ?c8 ?k8 ?a9 ?i9 ?l9 ?c9 ?k9 ?a10 ?l10 ?c10 ?k10 ?a11 ?l11 ?c11 ?k11 ?a12 ?l12 ?c12 ?k12 ?a13 ?l13 ?c13 ?k13 ?a14 ?l14 ?c14 ?k14 ?a15 ?l15 ?c15 ?k15 ?a16 ?l16 ?c16 ?k16 ?a17 ?l17 ?c17 ?k17 ?a18 ?l18 ?c18 ?k18 ?a19 ?l19 ?c19 ?k19 ?a20 ?l20 ?c20 ?k20 ?a21 ?l21 ?c21 ?k21 ?a22 ?l22 ?c22 ?k22 ?a23 ?l23 ?c23 ?k23 ?a24 ?l24 ?c24 ?k24 ?a25 ?l25 ?c25 ?k25 ?a26 ?l26 ?c26 ?k26 ?a27 ?l27 ?c27 ?k27 ?a28 ?l28 ?c28 ?k28 ?a29 ?l29 ?c29 ?k29 ?a30 ?l30 ?c30 ?k30 ?a31 ?l31 ?c31 ?k31 ?p0 ?q0 ?r0 ?s0 ?p1 ?q1 ?r1 ?s1 ?o1 ?m1 ?kp1 ?z0 ?z1 ?z2 ?z3 ?z4 ?z5 ?z6 ?z7 ?z8 ?z9 ?z10 ?z11 ?z12 ?z13 ?lc ?lh ?lt
    case ac0|ac1|a0|l0|c0|k0|a1|l1|c1|k1|a2|i2|l2|c2|k2|a3|l3|c3|k3|a4|i4|l4|c4|k4|a5|l5|c5|k5|a6|i6|l6|c6|k6|a7|l7|c7|k7|a8|l8|c8|k8|a9|i9|l9|c9|k9|a10|l10|c10|k10|a11|l11|c11|k11|a12|l12|c12|k12|a13|l13|c13|k13|a14|l14|c14|k14|a15|l15|c15|k15|a16|l16|c16|k16|a17|l17|c17|k17|a18|l18|c18|k18|a19|l19|c19|k19|a20|l20|c20|k20|a21|l21|c21|k21|a22|l22|c22|k22|a23|l23|c23|k23|a24|l24|c24|k24|a25|l25|c25|k25|a26|l26|c26|k26|a27|l27|c27|k27|a28|l28|c28|k28|a29|l29|c29|k29|a30|l30|c30|k30|a31|l31|c31|k31|p0|q0|r0|s0|p1|q1|r1|s1|o1|m1|kp1|z0|z1|z2|z3|z4|z5|z6|z7|z8|z9|z10|z11|z12|z13 => first|delta TX.Lk;k_is|k_is
    case lc => rfl
    case lh|lt => kernel_rfl
