import PyProof.Rows.All
import Wide.All
import OpenK.AllK
import Wide.FinOn
import Lean
import PyProof.EqAt
import PyProof.EqKinds
import PyProof.TupleCall
import PyProof.NeKinds
import PyProof.ZipIter
import PyProof.Draws
import PyProof.FactsAll.zip
import KE.KSortTup
import KE.KDictSum
import PyProof.TupleOfSeq
import PyProof.StrWalks
import PyProof.Rows.SetFrom
import KE.KRevIter
import PyProof.Rows.Range3
import KE.KTryMore
import KE.KIsNot
import PyProof.ExcArgsOwn
import PyProof.ExcAttrAll.ValueError
import PyProof.ExcBaseAll.ValueError
import PyProof.NsDelKeeps
import PyProof.Rows.CallKwBuiltin
import PyProof.WalkInts
import PyProof.Rows.Catch
import KE.KLam
import KE.KNestM
import PyProof.FactsAll.list_3
import KE.KDictList
import PyProof.Rows.CountFlat
import KE.KDictOf
import PyProof.AttrMissHeap
import PyProof.DictFindH
import PySem.Challenge.RW_twoglass_k51_joins_put
set_option Elab.async false
set_option linter.all false
set_option maxRecDepth 100000
open List renaming filterMap_cons→Mu,mem_cons_self→Mv,mem_cons_of_mem→Mw,mem_append_left→Mx,getElem?_set_self→My,getElem?_set_ne→Mz,mem_append_right→MD,size_toArray→MF,append_nil→MJ,of_mem_zip→MK,length_take→ML,getElem?_append_right→MM,getElem?_replicate→MN,getElem?_append_left→MO,getElem?_map→MP,mem_of_getElem?→MQ,length_append→MR,length_map→MS,length_drop→MU,length_singleton→MY,map_nil→MZ,map_cons→M0,find?_cons→M1,any_cons→M2,length_cons→M6,length_nil→M7,nodup_nil→Nb,lookup_cons→Nc,forIn_cons→Nf,cons_append→Ni,take_zero→Nj,take_succ_cons→Nk,drop_zero→Nm,drop_succ_cons→Nn,all_cons→Np,getElem?_eq_getElem→Nq,getElem_of_mem→Nw,nil_append→Nx,map_congr_left→Ny,map_append→Nz,length_range→NB,take_length→NC,getElem?_range→NE,drop_eq_getElem_cons→NF,append_assoc→NK,drop_length→NM,zipIdx_cons→NN,mem_cons→NP,not_mem_nil→NQ,getElem?_cons_zero→NR,getElem?_cons_succ→NS,contains_cons→NX,zip_cons_cons→NY,zip_nil_right→NZ,replicate_succ→N0,foldl_cons→N1,not_lt_nil→N2,nil_lt_cons→N3,cons_lt_cons_iff→N4,pairwise_singleton→N5,filter_cons_of_pos→N6,filter_cons_of_neg→N7,getElem_mem→N8,pairwise_map→N9,getD_eq_getElem?_getD→Oa,map_map→Oc,any_map→Od,toList_toArray→Oe,getElem?_eq_none→Og,take_of_length_le→Oh,mem_singleton→Oi,find?_cons_of_pos→Oo,find?_cons_of_neg→Oq,set_cons_zero→Ou,set_cons_succ→Ov,replicate_zero→Ow,any_eq_true→OB,mem_nil_iff→OC,take_succ_eq_append_getElem→OD,perm_ext_iff_of_nodup→OG,length_filter_le→OH,length_zipIdx→OI,flatMap_cons→OL,take_left'→OM,take_append_of_le_length→OO,take_take→OQ,filter_sublist→OT,filter_append→OU,take_append_drop→OV,mem_of_mem_take→OW
open Int renaming fdiv_eq_ediv_of_nonneg→ME,toNat_natCast→MT,emod_nonneg→Oz,emod_lt_of_pos→OA,toNat_of_nonneg→OJ
open Nat renaming lt_of_lt_of_le→Mo,lt_irrefl→Mp,ne_of_lt→Mq,le_trans→Mr,le_of_lt→Ms,ne_of_gt→MA,le_refl→MC,le_of_eq→MH,zero_le→MI,lt_trans→M9,lt_succ_of_lt→Nh,min_self→Nr,sub_zero→ND,lt_of_le_of_lt→NI,le_add_right→NT,add_lt_add_left→NU,lt_add_of_pos_right→NV,zero_add→NW,lt_or_ge→Of,le_total→Oj,min_eq_left→Ol,min_eq_right→Om,sub_self→Ot
open Bool renaming false_and→MB,false_ne_true→MG,and_eq_true→MV,true_or→M3,false_or→M4,false_eq_true→Ng,and_true→Nt,and_false→Nu,or_eq_true→Nv,not_true→Ox,not_false→Oy,not_eq_true'→OS
open Option renaming getD_none→MX,isSome_map→M8
open PySem renaming Value→Qg,World→Qh,Program→Qi,Addr→Qj,Paired→Qk,Heap→Ql,sizeLine→Qm,mainGlobals→Qo,builtinsNs→Qp,bootBuiltins→Qq,Around→Qr,Shared→Qs,Scope→Qt,wpAny→Qu,Expr→Qv,starEach→Qw,Stmt→Qx,wpAny_mono→Qy,wpAny_Name→Qz,wpAny_truthy_bool→QA,wpAny_execs_nil→QB,wpAny_pure→QC,wpAny_bind→QD,wpAny_pyIter_list→QE,PassesOwn→QF,foldedSetIterable→QG,wpAny_passesOwn→QH,binaryOp→QI,compareOp→QJ,behindInMarks→QK,sizeLine_eq→QL,codeAny→QM,callWith→QN,keywordEach→QO,recursionLimit→QP,cLine→QQ,FuncData→QR,BindsTo→QS,NameKind→QT,Arguments→QU,wpAny_Call_Name_kw→QV,concat_meets→QW,noFill_tuple_add→QX,seq_tuple_add→QY,IsPart→QZ,wpAny_field→Q0,wpAny_holding→Q1,wpAny_callSpecial?_slot→Q2,wpAny_call_entry→Q3,wpAny_typeOf→Q4,wpAny_newObj_type→Q5,evalPart_none→Q6,attributeBase→Q8,Keyword→Q9,tupleKind_room_in1→Ra,wpAny_standAt→Rb,wpAny_comprehension_free→Rc,wpAny_rule→Rf,wpAny_getItem_str_slice→Rg,post_val_or_str→Rh,wpAny_seqItems→Ri,wpAny_setField→Rj,IsZip→Rl,IsPair→Rm,wpAny_setField_rec→Rn,wpAny_onRaise→Ro,wpAny_updateSeq_pair→Rp,wpAny_letGo→Rq,wpAny_newTuple→Rr,wpAny_attempt→Rt,wpAny_isInstance→Ru,wpAny_newList→RB,wpAny_collect_seq→RC,wpAny_dictEntries→RE,wpAny_dictEpoch→RF,wpAny_typeNameOfWhole_keyiter→RG,wpAny_typeNameOf_keyiter→RH
open PySem.W renaming instObj→OX,methodObj→OY,Frag→OZ,lookIn→O0,plainGet→O1,findIn→O2,isFn→O3,plainGet_of→O5,makesIn→O6,Looks→O7,emptyDict→O8,makes_of→O9,hasDictIn→Pa,plainOver→Pb,keepIn→Ph,cellsFrom_some→Pj,fnOf→Pk,codeIn→Pl,nsIn→Pm,kitOne→Pn,kia_one→Pp,callWith_K→Pq,BoolBack→Pr,tabObj→Pu,kla_fn→Pw,OpenLaw→Px,kdl_call→Py,codeHdIn→Pz,mg_of→PB,mg_none_of→PC,kas_ask→Rx,kla_obj→RD
open PySem.Heap renaming lt_size→PD,get?_none_of_le→PF,SameBut→PH,get?_push_of_some→PJ,get?_push_size→PK,size_push→PL,get?_update_self→PN,get?_push_ne→PP,size_update→PQ,get?_update_ne→PR
open PyProof.Rows renaming callWith_type1→PV,slot_tuple_getitem→PX,envOfC→PY,IsTup→PZ,Call_→P0,boot_str→P4,boot_bool→P5,boot_int→P6,boot_tuple→P7,boot_list→P8,boot_max→P9,boot_min→Qa,IsTup→Qn,Subscript_→Q7,SortKind→Rv,listUpdate_at→Ry,get?_update_seq→Rz,seqEpoch_at→RA
open PySem.F renaming slot_tuple_add→Qb,entry_tuple_add→Qc,args_tuple_add_2→Qd,slot_list_append→Qe,type_list_append→Qf
set_option maxHeartbeats 1000000
local macro_rules | `(‹1›)=>`(by first | exact Or.inl rfl | exact Or.inr rfl)
local macro_rules | `(‹2›)=>`(⟨rfl, rfl, rfl, by decide +kernel, rfl, by decide +kernel, by decide +kernel⟩)
local macro_rules | `(‹0›)=>`(by omega)
namespace L2
open PySem PySem.Spec PyProof.Rows
abbrev Key:=Sum Int Str
def pP:Key->Qg->Bool
 |.inl k,v=>Value.isInt k v
 |.inr x,v=>Value.isStrOf x v
def Ku(w:Qh):Key->Int
 |.inl k=>hashInt k
 |.inr x=>hashStr w x
theorem cS:∀{k:Key}{v:Qg},pP k v=true->(∃i t,k=Sum.inl i/\v=Value.int i t)\/(∃x t,k=Sum.inr x/\v=Value.str x t)
 |.inl i,v,h=>by
  obtain⟨t,e⟩:=Value.isInt_shape (k:=i) (v:=v) h;exact .inl ⟨i,t,rfl,e⟩
 |.inr x,v,h=>by
  obtain⟨t,e⟩:=Value.isStrOf_shape (x:=x) (v:=v) h;exact .inr ⟨x,t,rfl,e⟩
theorem Aa(i:Int)(t:Tok):pP (.inl i) (.int i t)=true:=by simp[pP,Value.isInt]
theorem AV(x:Str)(t:Tok):pP (.inr x) (.str x t)=true:=by simp[pP,Value.isStrOf]
theorem Gc(a b:Int):decide ((Sum.inl a:Key)=Sum.inl b)=(a==b):=by
 by_cases e:a=b
 ·subst e;simp
 ·have h:¬(Sum.inl a:Key)=Sum.inl b:=λq=>e (Sum.inl.inj q);rw[decide_eq_false h];exact(beq_eq_false_iff_ne.mpr e).symm
theorem Gv(a b:Str):decide ((Sum.inr a:Key)=Sum.inr b)=decide (a=b):=by
 by_cases e:a=b
 ·subst e;simp
 ·have h:¬(Sum.inr a:Key)=Sum.inr b:=λq=>e (Sum.inr.inj q);rw[decide_eq_false h,decide_eq_false e]
theorem GJ(a:Int)(b:Str):decide ((Sum.inl a:Key)=Sum.inr b)=false:=decide_eq_false (λq=>nomatch q)
theorem G8(a:Str)(b:Int):decide ((Sum.inr a:Key)=Sum.inl b)=false:=decide_eq_false (λq=>nomatch q)
def cM(prog:Qi)(w:Qh):PySem.KeyKind prog w Key where
 is:=pP
 hash:=Ku w
 inj:=λv a b ha hb=>by
  rcases cS ha with⟨i,t,rfl,rfl⟩|⟨x,t,rfl,rfl⟩
  ·rcases cS hb with⟨j,u,rfl,e⟩|⟨y,u,rfl,e⟩
   ·injection e with e1 _;rw[e1]
   ·exact nomatch e
  ·rcases cS hb with⟨j,u,rfl,e⟩|⟨y,u,rfl,e⟩
   ·exact nomatch e
   ·injection e with e1 _;rw[e1]
 byValue:=λk v h=>by
  rcases cS h with⟨i,t,rfl,rfl⟩|⟨x,t,rfl,rfl⟩<;>rfl
 pyHash:=λhv h=>by
  rcases cS hv with⟨i,t,rfl,rfl⟩|⟨x,t,rfl,rfl⟩
  ·exact wpAny_pyHash_int h
  ·exact wpAny_pyHash_str h
 eqBool:=λhu hv h=>by
  rcases cS hu with⟨i,t,rfl,rfl⟩|⟨x,t,rfl,rfl⟩
  ·rcases cS hv with⟨j,u,rfl,rfl⟩|⟨y,u,rfl,rfl⟩
   ·rw[Gc]at h;exact wpAny_eqBool_int h
   ·rw[GJ]at h;exact SeqAt.EqAt.int_str i t y u _ _ _ _ h
  ·rcases cS hv with⟨j,u,rfl,rfl⟩|⟨y,u,rfl,rfl⟩
   ·rw[G8]at h;exact SeqAt.EqAt.str_int x t j u _ _ _ _ h
   ·rw[Gv]at h;exact wpAny_eqBool_str h
 «strs»:=λk x t v h=>by
  rcases cS h with⟨i,u,rfl,e⟩|⟨y,u,rfl,e⟩
  ·exact nomatch e
  ·injection e with e1 _;subst e1;cases v<;>rfl
theorem ym(prog:Qi)(w:Qh)(k:Key)(v:Qg):(cM prog w).is k v=pP k v:=rfl
theorem xh(prog:Qi)(w:Qh)(i:Int)(t:Tok):(cM prog w).is (.inl i) (.int i t)=true:=Aa i t
theorem vK(prog:Qi)(w:Qh)(x:Str)(t:Tok):(cM prog w).is (.inr x) (.str x t)=true:=AV x t
inductive V where
 |non|bl (b:Bool)|int (i:Int)|str (x:Str)|byt (b:Array UInt8)|flt (b:UInt64)|ref (a:Qj)|ty (n:String)
 deriving DecidableEq
def RelV:V->Qg->Prop
 |.non,u=>u=Value.none
 |.bl b,u=>u=Value.bool b
 |.int i,u=>∃t,u=Value.int i t
 |.str x,u=>∃t,u=Value.str x t
 |.byt b,u=>∃t,u=Value.bytes b t
 |.flt b,u=>∃t,u=Value.float b t
 |.ref a,u=>u=Value.ref a
 |.ty n,u=>u=Value.type n
abbrev Vals:List V->List Qg->Prop:=Qk RelV
theorem Vals.length{xs:List V}{us:List Qg}(r:Vals xs us):xs.length=us.length:=Paired.length r
theorem Vals.get:∀{xs:List V}{us:List Qg}{i:Nat}{x:V},Vals xs us->xs[i]?=some x->∃u,us[i]?=some u/\RelV x u
 |_,_,_,_,.nil,e=>by simp at e
 |_,_,0,_,.cons r _,e=>by simp at e;subst e;exact⟨_,rfl,r⟩
 |_,_,i+1,x,.cons _ t,e=>by
  obtain⟨u,h1,h2⟩:=Vals.get (i:=i) (x:=x) t (by simpa using e);exact⟨u,by simpa using h1,h2⟩
theorem Vals.append:∀{xs ys:List V}{us ws:List Qg},Vals xs us->Vals ys ws->Vals (xs++ys) (us++ws)
 |_,_,_,_,.nil,s=>s
 |_,_,_,_,.cons r t,s=>.cons r (Vals.append t s)
theorem Vals.take:∀{xs:List V}{us:List Qg}(n:Nat),Vals xs us->Vals (xs.take n) (us.take n)
 |_,_,0,_=>.nil
 |_,_,_+1,.nil=>.nil
 |_,_,n+1,.cons r t=>.cons r (Vals.take n t)
theorem Vals.drop:∀{xs:List V}{us:List Qg}(n:Nat),Vals xs us->Vals (xs.drop n) (us.drop n)
 |_,_,0,r=>r
 |_,_,_+1,.nil=>.nil
 |_,_,n+1,.cons _ t=>Vals.drop n t
def wW:Option V->Option Qg->Prop
 |some v,some u=>RelV v u
 |none,none=>True
 |_,_=>False
def KV{κ:Type}:List (κ×V)->List (κ×Qg)->Prop:=Qk λ(p:κ×V)(q:κ×Qg)=>p.1=q.1/\RelV p.2 q.2
def kV:Key->V
 |.inl i=>.int i
 |.inr x=>.str x
inductive HO where
  |lst (xs:List V)
  |tup (xs:List V)
  |dK (kvs:List (Key×V))|dT (kvs:List (List Key×V))
  |set (S:Int->Bool) (n:Nat)
  |ins (C dx:Qj) (fs:List (Str×V))
  |own (x:Qj)
  |xd (fs:List (Str×V))
  |met (f x:Qj)
  |rng (lo hi:Int)
  |frz (o:Obj) (u:HO)
  |tbl (ps:Array Qg)
  |ext (φ:(Qj->Prop)->Ql->Prop)
abbrev Hp:=Qj->Option HO
def upd(H:Hp)(a:Qj)(o:HO):Hp:=λb=>if b=a then some o else H b
theorem aZ{H:Hp}{a:Qj}{o:HO}:upd H a o a=some o:=by unfold upd;rw[if_pos rfl]
theorem aM{H:Hp}{a b:Qj}{o:HO}(h:b≠a):upd H a o b=H b:=by unfold upd;rw[if_neg h]
theorem DZ{H:Hp}{a:Qj}{o u:HO}:upd (upd H a o) a u=upd H a u:=by
 funext b;unfold upd;split<;>rfl
theorem HN{H:Hp}{a b:Qj}{o u:HO}(h:H a=some o)(h':H b=some u)(d:o≠u):a≠b:=by
 intro e;subst e;rw[h]at h';exact d (Option.some.inj h')
theorem bd{H:Hp}{a b:Qj}{o:HO}(h:H a=some o)(h':H b=none):a≠b:=by
 intro e;subst e;rw[h]at h';cases h'
section
variable(P:Qi)(w:Qh)
def cJ(H:Hp)(h:Ql)(a:Qj):HO->Prop
 |.lst xs=>xs.length<=Qm/\∃(its:List Qg)(n:Nat),Vals xs its/\h.get? a=some {cls:=.type "list",data:=.seq its.toArray n}
 |.tup xs=>xs.length<=Qm/\∃its:List Qg,Vals xs its/\Qn h a its.toArray
 |.dK kvs=>kvs.length<=Qm/\(a==sysModules)=false/\∃vs,KV kvs vs/\h.DictOf (cM P w) a vs
 |.dT kvs=>kvs.length<=Qm/\(a==sysModules)=false/\∃xs:List (List Key×Qj×Qg),
   Qk (λ(p:List Key×V)(q:List Key×Qj×Qg)=>p.1=q.1/\H q.2.1=some (.tup (p.1.map kV))/\RelV p.2 q.2.2) kvs xs/\
   ∃o es ep,h.get? a=some o/\o.ExactDict/\o.data=.dict es ep/\es.toList=xs.map (entryOfKey (tupleKind (cM P w)))/\(xs.map (·.1)).Nodup
 |.set S n=>h.SetOf (intKind P w) a S n
 |.ins C dx fs=>H dx=some (.own a)/\fs.length<=1000/\dx≠a/\h.get? a=some (OX C dx)/\
   ∃mA,h.Ns1 dx mA/\(∀f,wW (fs.lookup f) (mA f))/\PySem.Within mA (fs.map (·.1))
 |.own _=>∃o,h.get? a=some o
 |.xd fs=>∃mA,h.Ns1 a mA/\∀f,wW (fs.lookup f) (mA f)
 |.rng lo hi=>∃t u v,h.get? a=some {cls:=.type "range",data:=.fields #[.int lo t,.int hi u,.int 1 v]}
 |.frz o u=>h.get? a=some o/\cJ H h a u
 |.tbl ps=>h.get? a=some {cls:=.none,data:=.fields ps}
 |.met f x=>h.get? a=some (OY (.ref f) (.ref x))
 |.ext φ=>φ (λb=>H b=some (.own a)) h/\(∃o,h.get? a=some o)/\∀(S1 S2:Qj->Prop)(h1 h2:Ql),φ S1 h1->(∀b,S1 b->S2 b)->(∀b o,(b=a\/S1 b)->h1.get? b=some o->h2.get? b=some o)->φ S2 h2
def oj(H:Hp)(h:Ql):Prop:=∀a o,H a=some o->cJ P w H h a o
end
section
variable{P:Qi}{w:Qh}{H H':Hp}{h h':Ql}{a:Qj}{o:HO}
theorem cJ.lt(x:cJ P w H h a o):a<h.objs.size:=by
 cases o with
 |lst xs=>obtain⟨_,_,_,_,e⟩:=x;exact PD e
 |tup xs=>obtain⟨_,_,_,p⟩:=x;exact p.lt
 |dK kvs=>obtain⟨_,_,_,_,o,_,_,e,_⟩:=x;exact PD e
 |dT kvs=>obtain⟨_,_,_,_,o,_,_,e,_⟩:=x;exact PD e
 |set S n=>obtain⟨o,_,_,_,e,_⟩:=x;exact PD e
 |ins C dx fs=>obtain⟨_,_,_,e,_⟩:=x;exact PD e
 |own y=>obtain⟨_,e⟩:=x;exact PD e
 |xd fs=>obtain⟨_,⟨_,_,_,e,_⟩,_⟩:=x;exact PD e
 |rng lo hi=>obtain⟨_,_,_,e⟩:=x;exact PD e
 |frz ob u=>obtain⟨e,_⟩:=x;exact PD e
 |tbl ps=>exact PD (show h.get? a=some _ from x)
 |met f y=>exact PD (show h.get? a=some _ from x)
 |ext φ=>obtain⟨_,⟨_,e⟩,_⟩:=x;exact PD e
theorem Paired.mapP{α β:Type}{F G:α->β->Prop}:∀{l₁:List α}{l₂:List β},Qk F l₁ l₂->(∀a b,F a b->G a b)->Qk G l₁ l₂
 |_,_,.nil,_=>.nil
 |_,_,.cons r t,f=>.cons (f _ _ r) (Paired.mapP t f)
theorem cJ.stay(x:cJ P w H h a o)(k:∀b u,(b=a\/H b=some (.own a))->h.get? b=some u->h'.get? b=some u)
  (ho:∀b,H b=some (.own a)->H' b=some (.own a)) (ht:∀b xs,H b=some (.tup xs)->H' b=some (.tup xs)):cJ P w H' h' a o:=by
 induction o with
 |lst xs=>obtain⟨z,its,n,r,e⟩:=x;exact⟨z,its,n,r,k _ _ (.inl rfl) e⟩
 |tup xs=>obtain⟨z,its,r,ob,e,c⟩:=x;exact⟨z,its,r,ob,k _ _ (.inl rfl) e,c⟩
 |dK kvs=>obtain⟨z,y,vs,r,ob,es,ep,e,c⟩:=x;exact⟨z,y,vs,r,ob,es,ep,k _ _ (.inl rfl) e,c⟩
 |dT kvs=>
  obtain⟨z,y,xs,r,ob,es,ep,e,c⟩:=x;exact⟨z,y,xs,Paired.mapP r λp q z=>⟨z.1,ht _ _ z.2.1,z.2.2⟩,ob,es,ep,k _ _ (.inl rfl) e,c⟩
 |set S n=>obtain⟨ob,es,ep,t,e,c⟩:=x;exact⟨ob,es,ep,t,k _ _ (.inl rfl) e,c⟩
 |ins C dx fs=>
  obtain⟨d,z,ne,e,mA,⟨od,es,ep,e2,c⟩,r⟩:=x;exact⟨ho _ d,z,ne,k _ _ (.inl rfl) e,mA,⟨od,es,ep,k _ _ (.inr d) e2,c⟩,r⟩
 |own y=>obtain⟨ob,e⟩:=x;exact⟨ob,k _ _ (.inl rfl) e⟩
 |xd fs=>obtain⟨mA,⟨od,es,ep,e,c⟩,r⟩:=x;exact⟨mA,⟨od,es,ep,k _ _ (.inl rfl) e,c⟩,r⟩
 |rng lo hi=>obtain⟨t,u,v,e⟩:=x;exact⟨t,u,v,k _ _ (.inl rfl) e⟩
 |frz ob u ih=>obtain⟨e,q⟩:=x;exact⟨k _ _ (.inl rfl) e,ih q⟩
 |tbl ps=>
  have e:h.get? a=some {cls:=.none,data:=.fields ps}:=x;show h'.get? a=some {cls:=.none,data:=.fields ps};exact k a _ (.inl rfl) e
 |met f y=>
  have e:h.get? a=some (OY (.ref f) (.ref y)):=x;show h'.get? a=some (OY (.ref f) (.ref y));exact k a _ (.inl rfl) e
 |ext φ=>obtain⟨p,⟨o,e⟩,st⟩:=x;exact⟨st _ _ _ _ p ho k,⟨o,k _ _ (.inl rfl) e⟩,st⟩
theorem oj.lt(x:oj P w H h)(e:H a=some o):a<h.objs.size:=(x a o e).lt
theorem oj.fresh(x:oj P w H h)(e:h.objs.size<=a):H a=none:=by
 cases q:H a with
 |none=>rfl
 |some u=>exact absurd (Mo (x.lt q) e) (Mp _)
theorem oj.kept(x:oj P w H h)(k:∀b u,h.get? b=some u->h'.get? b=some u):oj P w H h':=λa o e=>
 (x a o e).stay (λb u _ q=>k b u q) (λ_ q=>q) λ_ _ q=>q
theorem oj.laid(x:oj P w H h)(k:∀b u,h.get? b=some u->h'.get? b=some u)(hp:h.objs.size<=a)(new:cJ P w (upd H a o) h' a o):oj P w (upd H a o) h':=λb u e=>by
 have hn:=x.fresh hp;by_cases hb:b=a
 ·subst hb;rw[aZ]at e;cases e;exact new
 ·rw[aM hb]at e;exact(x b u e).stay (λc v _ q=>k c v q) (λc q=>by rw[aM (bd q hn)];exact q) λc xs q=>by rw[aM (bd q hn)];exact q
end
def Rd(H:Hp)(a:Qj)(u:HO):Prop:=H a=some u\/∃o,H a=some (.frz o u)
theorem Rd.ok{P:Qi}{w:Qh}{H:Hp}{h:Ql}{a:Qj}{u:HO}(r:Rd H a u)(x:oj P w H h):cJ P w H h a u:=by
 rcases r with r|⟨o,r⟩
 ·exact x a u r
 ·obtain⟨_,q⟩:=x a _ r;exact q
def Io:Option HO->Prop
 |some (.lst _)=>True
 |some (.dK _)=>True
 |some (.dT _)=>True
 |some (.set _ _)=>True
 |some (.ins _ _ _)=>True
 |some (.ext _)=>True
 |_=>False
section
variable{P:Qi}{w:Qh}{H:Hp}{h h':Ql}{x e:Qj}{o':HO}
theorem oj.write(ok:oj P w H h)(mu:Io (H x))(he:e=x\/H e=some (.own x))(k:∀b u,b≠e->h.get? b=some u->h'.get? b=some u)(heo:∃u,h'.get? e=some u)
  (new:cJ P w (upd H x o') h' x o'):oj P w (upd H x o') h':=λb u q=>by
 have nown:∀c y,H c=some (.own y)->c≠x:=λc y r z=>by subst z;rw[r]at mu;exact mu
 have ntup:∀c xs,H c=some (.tup xs)->c≠x:=λc xs r z=>by subst z;rw[r]at mu;exact mu
 by_cases hb:b=x
 ·subst hb;rw[aZ]at q;cases q;exact new
 ·rw[aM hb]at q;by_cases hbe:b=e
  ·have q':H b=some (.own x):=by
    rcases he with z|z
    ·exact absurd (hbe.trans z) hb
    ·rw[hbe];exact z
   rw[q]at q';cases q';obtain⟨v,hv⟩:=heo;exact⟨v,by rw[hbe];exact hv⟩
  ·refine(ok b u q).stay (λc v hc r=>k c v ?_ r) (λc r=>by rw[aM (nown c b r)];exact r) λc xs r=>by rw[aM (ntup c xs r)];exact r
   rcases hc with rfl|hc
   ·exact hbe
   ·rintro rfl;rcases he with z|z
    ·exact nown c b hc z
    ·rw[hc]at z;cases z;exact hb rfl
end
structure Un(fs ex:List Qj)(H H':Hp)(h h':Ql):Prop where
 keep:∀b o,h.get? b=some o->H b=none->b∉fs->b∉ex->h'.get? b=some o
 slot:∀b o,h.get? b=some o->H b=none->b∈fs->b∉ex->∃sl,h'.get? b=some {o with slots:=sl}
 free:∀b o,h.get? b=some o->H b=none->b∉ex->H' b=none
 there:∀b o,h.get? b=some o->b∉ex->∃o',h'.get? b=some o'
 tups:∀b xs,H b=some (.tup xs)->H' b=some (.tup xs)
 frzs:∀b o u,H b=some (.frz o u)->H' b=some (.frz o u)
 tbls:∀b ps,H b=some (.tbl ps)->∃more,H' b=some (.tbl (ps++more))
section
variable{fs fs' ex ex':List Qj}{H H1 H2:Hp}{h h1 h2 h':Ql}{a x e:Qj}{o:HO}
theorem Un.any(u:Un fs ex H H1 h h1){b:Qj}{ob:Obj}(q:h.get? b=some ob)(n:H b=none)(hx:b∉ex):∃sl,h1.get? b=some {ob with slots:=sl}:=by
 by_cases hb:b∈fs
 ·exact u.slot b ob q n hb hx
 ·exact⟨ob.slots,u.keep b ob q n hb hx⟩
theorem Un.kept(k:∀b u,h.get? b=some u->h'.get? b=some u):Un fs ex H H h h':=
 ⟨λb ob q _ _ _=>k b ob q,λb ob q _ _ _=>⟨ob.slots,k b ob q⟩,λ_ _ _ n _=>n,λb ob q _=>⟨ob,k b ob q⟩,λ_ _ q=>q,λ_ _ _ q=>q,λ_ ps q=>⟨#[],by rw[q];simp⟩⟩
theorem Un.refl:Un fs ex H H h h:=Un.kept λ_ _ q=>q
theorem Un.laid(k:∀b u,h.get? b=some u->h'.get? b=some u)(hp:h.objs.size<=a)(hn:H a=none):Un fs ex H (upd H a o) h h' where
 keep:=λb u q _ _ _=>k b u q
 slot:=λb u q _ _ _=>⟨u.slots,k b u q⟩
 free:=λb u q n _=>by rw[aM (Mq (Mo (PD q) hp))];exact n
 there:=λb u q _=>⟨u,k b u q⟩
 tups:=λb xs q=>by rw[aM (bd q hn)];exact q
 frzs:=λb u xs q=>by rw[aM (bd q hn)];exact q
 tbls:=λb ps q=>⟨#[],by rw[aM (bd q hn),q];simp⟩
theorem Un.write(mu:Io (H x))(he:e=x\/H e=some (.own x))(k:∀b u,b≠e->h.get? b=some u->h'.get? b=some u)(heo:∃u,h'.get? e=some u):Un fs ex H (upd H x o) h h':=by
 have hx:∀b,H b=none->b≠x:=λb n z=>by subst z;rw[n]at mu;exact mu
 have hb:∀b,H b=none->b≠e:=λb n z=>by
  subst z;rcases he with r|r
  ·exact hx b n r
  ·rw[n]at r;cases r
 have hm:∀b u,H b=some u->¬Io (some u)->b≠x:=λb u q nm z=>by subst z;rw[q]at mu;exact nm mu
 refine⟨λb u q n _ _=>k b u (hb b n) q,λb u q n _ _=>⟨u.slots,k b u (hb b n) q⟩,λb u q n _=>by rw[aM (hx b n)];exact n,λb u q _=>?_,
  λb xs q=>by rw[aM (hm b _ q λz=>z)];exact q,λb u xs q=>by rw[aM (hm b _ q λz=>z)];exact q,λb ps q=>⟨#[],by rw[aM (hm b _ q λz=>z),q];simp⟩⟩
 by_cases hbe:b=e
 ·subst hbe;exact heo
 ·exact⟨u,k b u hbe q⟩
end
def Jv(h:Ql)(H:Hp):List Qj:=(List.range h.objs.size).filter λa=>(H a).isSome
def uW(h:Ql)(H:Hp):Ql:=PySem.W.hideAll h (Jv h H)
theorem AH(h:Ql)(H:Hp):(uW h H).objs.size=h.objs.size:=PySem.W.hideAll_size _ _
theorem qX{h:Ql}{H:Hp}{b:Qj}{o:Obj}(e:h.get? b=some o)(n:H b=none):(uW h H).get? b=some o:=
 PySem.W.hideAll_get _ e λhm=>by
  have q:(H b).isSome=true:=(List.mem_filter.mp hm).2;rw[n]at q;simp at q
theorem DM{h:Ql}{H:Hp}{b:Qj}{o:Obj}(e:(uW h H).get? b=some o):h.get? b=some o/\H b=none:=by
 have e':h.get? b=some o:=PySem.W.of_hideAll (Jv h H) e;refine⟨e',?_⟩;cases q:H b with
 |none=>rfl
 |some x=>
  have hm:b∈Jv h H:=List.mem_filter.mpr ⟨List.mem_range.mpr (PD e'),by simp[q]⟩;have z:(uW h H).get? b=none:=PySem.W.hideAll_none (Jv h H) hm;rw[z]at e;cases e
def DK(g h:Ql)(L:Qj):List (Qj×Obj):=(List.range h.objs.size).filterMap λa=>if a=L\/(g.get? a).isSome=true then none else(h.get? a).map λo=>(a,o)
def rest(g h:Ql)(L d:Qj):List (Qj×Obj):=(DK g h L).filter λp=>decide (p.1≠d)
structure Mod(K:OZ)(mg:Str->Option Qg)(base:Ql):Prop where
 kin:K.In base
 glob:base.Ns Qo mg
 blt:∃mb,base.Ns Qp mb/\∀x:Str,x≠"__name__"->mb x=Qq x
 nolimit:base.NoLimit
structure Cx where
 prog:Qi
 w:Qh
 K:OZ
 mg:Str->Option Qg
 base:Ql
 A:Qr
 N:List Str
 s₀:Qs
 H₀:Hp
 env:Env
 outer:List Env
 stack:List Env
 ex:List Qj
 fn:Str->Bool
 calm:Bool
 pn:List (Qj×Obj)
 xe:Qg->Qs->Prop
def frs(l:List Env):List Qj:=l.filterMap (·.frame)
abbrev Cx.fs(X:Cx):List Qj:=frs X.outer
def Gi(sc:Qt)(x:Str):Prop:=sc.names.lookup x=some .local\/sc.names.lookup x=some .cell\/sc.names.lookup x=some .free
def Loc(sc:Qt)(x:Str):Prop:=sc.names.lookup x=some .local\/sc.names.lookup x=some .cell
def Look(env:Env)(h:Ql)(m:Str->Option Qg)(x:Str)(u:Qg):Prop:=
 (env.kindOf x=some .local/\m x=some u)\/((env.kindOf x=some .cell\/env.kindOf x=some .free)/\∃c,env.cells.lookup x=some c/\h.IsCell c (some u))
structure Cx.Ok(X:Cx):Prop where
 mod:Mod X.K X.mg X.base
 kind:X.env.scope.kind=.function
 glob:X.env.globals=Qo
 blt:X.env.builtins=Qp
 above:X.s₀.heap.objs.size<=X.env.locals
 inj:∀x y c,X.env.cells.lookup x=some c->X.env.cells.lookup y=some c->x=y
 has:∀x,(X.env.kindOf x=some .cell\/X.env.kindOf x=some .free)->∃c,X.env.cells.lookup x=some c
 cab:∀x c,X.fn x=true->X.env.cells.lookup x=some c->X.s₀.heap.objs.size<=c
 hd:X.calm=true->X.A.handled=none
 frames:X.A.frames=some X.stack
 stk:X.stack=X.outer\/(X.stack=X.env::X.outer/\X.env.frame=some X.env.locals)
 exf:∀b∈X.ex,b≠X.env.locals/\∀x c,X.env.cells.lookup x=some c->c≠b
 bs:∀b o,X.base.get? b=some o->X.s₀.heap.get? b=some o/\X.H₀ b=none
 bsz:X.base.objs.size<=X.s₀.heap.objs.size
 noex:∀b o,X.base.get? b=some o->b∉X.ex
 exfs:∀b∈X.ex,b∉X.fs
 funs:X.s₀.heap.FunFrames X.base X.outer
 frf:∀b∈X.fs,X.H₀ b=none
structure Inv(X:Cx)(pins:List (Qj×Obj))(σ:List (Option V))(H:Hp)(s:Qs):Prop where
 ok:X.Ok
 os:s.os=X.s₀.os
 bare:AllBare s.gens
 base:Un X.fs X.ex X.H₀ H X.s₀.heap s.heap
 loc:∃m,s.heap.Ns X.env.locals m/\∀(i:Nat)(x:Str)(v:V),X.N[i]?=some x->σ[i]?=some (some v)->Gi X.env.scope x->∃u,RelV v u/\Look X.env s.heap m x u
 cell:∀x c,X.env.cells.lookup x=some c->∃v,s.heap.IsCell c v
 free:H X.env.locals=none
 freeC:∀x c,X.env.cells.lookup x=some c->H c=none
 pin:∀p∈X.pn++pins,s.heap.get? p.1=some p.2/\H p.1=none/\p.1≠X.env.locals/\p.1∉X.fs/\∀v,p.2.data≠.cell v
 hok:oj X.prog X.w H s.heap
 len:σ.length=X.N.length
section
variable{X:Cx}{pins:List (Qj×Obj)}{σ:List (Option V)}{H H':Hp}{s:Qs}{h':Ql}
theorem Cx.Ok.nofr(ok:X.Ok){b:Qj}{o:Obj}(e:X.base.get? b=some o):b∉X.fs:=λhb=>by
 have:=(ok.funs.mem hb).1
 rw[e]at this;cases this
theorem Inv.bs(I:Inv X pins σ H s):∀b o,X.base.get? b=some o->s.heap.get? b=some o/\H b=none:=λb o e=>
 ⟨I.base.keep b o (I.ok.bs b o e).1 (I.ok.bs b o e).2 (I.ok.nofr e) (I.ok.noex b o e),I.base.free b o (I.ok.bs b o e).1 (I.ok.bs b o e).2 (I.ok.noex b o e)⟩
theorem Inv.bk(I:Inv X pins σ H s):∀b o,X.base.get? b=some o->s.heap.get? b=some o:=λb o e=>(I.bs b o e).1
theorem Inv.mod(I:Inv X pins σ H s):Mod X.K X.mg X.base:=I.ok.mod
theorem Inv.kIn(I:Inv X pins σ H s):X.K.In s.heap:=I.ok.mod.kin.keeps I.bk
theorem Inv.nolimit(I:Inv X pins σ H s):s.heap.NoLimit:=I.ok.mod.nolimit.keeps I.bk
theorem Inv.lt(I:Inv X pins σ H s):X.env.locals<s.heap.objs.size:=let ⟨_,hn,_⟩:=I.loc;hn.lt
theorem Inv.sz(I:Inv X pins σ H s):X.s₀.heap.objs.size<=s.heap.objs.size:=Mr I.ok.above (Ms I.lt)
theorem Inv.nofs(I:Inv X pins σ H s){a:Qj}(h:s.heap.objs.size<=a):a∉X.fs:=λhb=>by
 obtain⟨_,o,ho,_⟩:=I.ok.funs.mem hb;exact absurd (Mo (PD ho) (Mr I.sz h)) (Mp _)
theorem Inv.cne(I:Inv X pins σ H s):∀x c,X.env.cells.lookup x=some c->c≠X.env.locals:=λx c e z=>by
 obtain⟨v,o,ho,hd⟩:=I.cell x c e;obtain⟨m,⟨o',es,ep,ho',hd',_⟩,_⟩:=I.loc;rw[z,ho']at ho;cases ho;rw[hd']at hd;cases hd
theorem Inv.funs(I:Inv X pins σ H s):s.heap.FunFrames X.base X.outer:=by
 have all:∀(l:List Env),(∀b∈frs l,b∈X.fs)->X.s₀.heap.FunFrames X.base l->s.heap.FunFrames X.base l:=by
  intro l
  induction l with
  |nil=>intro _ _;trivial
  |cons env r ih=>
   intro hs hl;obtain⟨hk,⟨L,o,hf,hn,ho,hd⟩,hr⟩:=hl;have hL:L∈X.fs:=hs L (by unfold frs;rw[Mu,hf];exact Mv);obtain⟨sl,e⟩:=I.base.slot L o ho (I.ok.frf L hL) hL λz=>I.ok.exfs L z hL;exact⟨hk,⟨L,_,hf,hn,e,hd⟩,ih (λb hb=>hs b (by unfold frs;rw[Mu,hf];exact Mw _ hb)) hr⟩
 exact all X.outer (λ_ hb=>hb) I.ok.funs
theorem Inv.stack(I:Inv X pins σ H s):s.heap.FunFrames X.base X.stack:=by
 rcases I.ok.stk with e|⟨e,hf⟩
 ·rw[e];exact I.funs
 ·rw[e];obtain⟨m,hn,_⟩:=I.loc;refine .cons (by rw[I.ok.kind];decide) hf hn ?_ I.funs;exact PF (Mr I.ok.bsz I.ok.above)
theorem Inv.stkSub(I:Inv X pins σ H s):∀b∈frs X.stack,b∈X.env.locals::X.fs:=λb hb=>by
 rcases I.ok.stk with e|⟨e,hf⟩
 ·rw[e]at hb;exact Mw _ hb
 ·rw[e]at hb;unfold frs at hb;rw[Mu,hf]at hb;exact hb
theorem Inv.stkFree(I:Inv X pins σ H s):∀b∈frs X.stack,H b=none:=λb hb=>by
 rcases List.mem_cons.mp (I.stkSub b hb)with e|hb
 ·rw[e];exact I.free
 ·obtain⟨_,o,ho,_⟩:=I.ok.funs.mem hb;exact I.base.free b o ho (I.ok.frf b hb) λz=>I.ok.exfs b z hb
theorem Inv.step{g':Array GenState}{t':Nat}{d':Drawn}{ch:List Qj}(I:Inv X pins σ H s)
  (hch:∀b∈ch,(b∈X.ex\/X.s₀.heap.objs.size<=b)/\b≠X.env.locals/\(∀x c,X.env.cells.lookup x=some c->c≠b)/\∀p∈X.pn++pins,p.1≠b)
  (keep:∀b o,b≠X.env.locals->b∉X.fs->b∉ch->s.heap.get? b=some o->H b=none->h'.get? b=some o)
  (slot:∀b o,b≠X.env.locals->b∈X.fs->b∉ch->s.heap.get? b=some o->H b=none->∃sl,h'.get? b=some {o with slots:=sl}) (free:∀b o,b∉ch->s.heap.get? b=some o->H b=none->H' b=none)
  (there:∀b o,b∉ch->s.heap.get? b=some o->∃o',h'.get? b=some o')
  (tups:∀b xs,H b=some (.tup xs)->H' b=some (.tup xs)) (frzs:∀b o u,H b=some (.frz o u)->H' b=some (.frz o u)) (tbls:∀b ps,H b=some (.tbl ps)->∃more,H' b=some (.tbl (ps++more)))
  (ns:∀m,s.heap.Ns X.env.locals m->h'.Ns X.env.locals m) (hok:oj X.prog X.w H' h') (hg:AllBare g'):
  Inv X pins σ H' {s with heap:=h',gens:=g',drawn:=d',toks:=t'}:=by
 have neL:∀b o,X.s₀.heap.get? b=some o->b≠X.env.locals:=λb o e=>Mq (Mo (PD e) I.ok.above);have neC:∀b o,X.s₀.heap.get? b=some o->b∉X.ex->b∉ch:=λb o e hx hb=>by
  rcases(hch b hb).1 with z|z
  ·exact hx z
  ·exact absurd (Mo (PD e) z) (Mp _)
 have cellK:∀x c,X.env.cells.lookup x=some c->∀v,s.heap.IsCell c v->h'.IsCell c v:=λx c e v ⟨o,ho,hd⟩=>by
  have nch:c∉ch:=λz=>(hch c z).2.2.1 x c e rfl;by_cases hc:c∈X.fs
  ·obtain⟨sl,q⟩:=slot c o (I.cne x c e) hc nch ho (I.freeC x c e);exact⟨_,q,hd⟩
  ·exact⟨o,keep c o (I.cne x c e) hc nch ho (I.freeC x c e),hd⟩
 refine⟨I.ok,I.os,hg,⟨λb o e n hb hx=>?_,λb o e n hb hx=>?_,λb o e n hx=>?_,λb o e hx=>?_,λb xs e=>tups b xs (I.base.tups b xs e),λb o xs e=>frzs b o xs (I.base.frzs b o xs e),λb ps e=>?_⟩,?_,λx c e=>?_,?_,λx c e=>?_,λp hp=>?_,hok,I.len⟩
 ·exact keep b o (neL b o e) hb (neC b o e hx) (I.base.keep b o e n hb hx) (I.base.free b o e n hx)
 ·obtain⟨sl,e1⟩:=I.base.slot b o e n hb hx;obtain⟨sl',e2⟩:=slot b _ (neL b o e) hb (neC b o e hx) e1 (I.base.free b o e n hx);exact⟨sl',e2⟩
 ·obtain⟨o',e1⟩:=I.base.there b o e hx;exact free b o' (neC b o e hx) e1 (I.base.free b o e n hx)
 ·obtain⟨o',e1⟩:=I.base.there b o e hx;exact there b o' (neC b o e hx) e1
 ·obtain⟨m1,e1⟩:=I.base.tbls b ps e;obtain⟨m2,e2⟩:=tbls b _ e1;exact⟨m1++m2,by rw[e2,Array.append_assoc]⟩
 ·obtain⟨m,hn,hl⟩:=I.loc;refine⟨m,ns m hn,λi x v e1 e2 e3=>?_⟩;obtain⟨u,r,l⟩:=hl i x v e1 e2 e3;refine⟨u,r,?_⟩;rcases l with l|⟨k,c,e,z⟩
  ·exact .inl l
  ·exact .inr ⟨k,c,e,cellK x c e _ z⟩
 ·obtain⟨v,z⟩:=I.cell x c e;exact⟨v,cellK x c e v z⟩
 ·obtain⟨m,⟨o,_,_,ho,_⟩,_⟩:=I.loc;exact free _ o (λz=>(hch _ z).2.1 rfl) ho I.free
 ·obtain⟨v,o,ho,hd⟩:=I.cell x c e;exact free c o (λz=>(hch c z).2.2.1 x c e rfl) ho (I.freeC x c e)
 ·obtain⟨e,n,ne,nf,d⟩:=I.pin p hp;have nch:p.1∉ch:=λz=>(hch p.1 z).2.2.2 p hp rfl;exact⟨keep p.1 p.2 ne nf nch e n,free p.1 p.2 nch e n,ne,nf,d⟩
theorem Inv.un{t':Nat}(I:Inv X pins σ H s)(u:Un X.fs [] H H' s.heap h')(hok:oj X.prog X.w H' h'):Inv X pins σ H' {s with heap:=h',toks:=t'}:=by
 obtain⟨m,⟨o,es,ep,ho,r⟩,_⟩:=id I.loc;obtain⟨sl,hL⟩:=u.any ho I.free (by simp);exact I.step (g':=s.gens) (d':=s.drawn) (ch:=[]) (λ_ z=>nomatch z) (λb o _ hb _ e n=>u.keep b o e n hb (by simp)) (λb o _ hb _ e n=>u.slot b o e n hb (by simp)) (λb o _ e n=>u.free b o e n (by simp)) (λb o _ e=>u.there b o e (by simp)) u.tups u.frzs u.tbls (λm' hm=>by
  obtain⟨o',es',ep',ho',r'⟩:=hm;rw[ho]at ho';cases ho';exact⟨_,es',ep',hL,r'⟩) hok I.bare
theorem Inv.call{g':Array GenState}{t':Nat}{d':Drawn}{ch:List Qj}(I:Inv X pins σ H s)(u:Un (frs X.stack) ch H H' s.heap h')(hok:oj X.prog X.w H' h')(hg:AllBare g')
  (hch:∀b∈ch,(b∈X.ex\/X.s₀.heap.objs.size<=b)/\b≠X.env.locals/\(∀x c,X.env.cells.lookup x=some c->c≠b)/\∀p∈X.pn++pins,p.1≠b):
  Inv X pins σ H' {s with heap:=h',gens:=g',drawn:=d',toks:=t'}:=by
 obtain⟨m,⟨o,es,ep,ho,r⟩,_⟩:=id I.loc;obtain⟨sl,hL⟩:=u.any ho I.free λz=>(hch _ z).2.1 rfl;exact I.step (ch:=ch) hch (λb o hL hb hc e n=>u.keep b o e n (λz=>(List.mem_cons.mp (I.stkSub b z)).elim hL hb) hc) (λb o _ _ hc e n=>u.any e n hc) (λb o hc e n=>u.free b o e n hc) (λb o hc e=>u.there b o e hc) u.tups u.frzs u.tbls (λm' hm=>by
  obtain⟨o',es',ep',ho',r'⟩:=hm;rw[ho]at ho';cases ho';exact⟨_,es',ep',hL,r'⟩) hok hg
theorem Inv.turned{t':Nat}{it:Qj}(I:Inv X pins σ H s)(k:∀b o,b≠it->s.heap.get? b=some o->h'.get? b=some o)(hn:H it=none)(hL:it≠X.env.locals)
  (h1:it∈X.ex\/X.s₀.heap.objs.size<=it) (h2:∀x c,X.env.cells.lookup x=some c->c≠it) (h3:∀p∈X.pn++pins,p.1≠it):Inv X pins σ H {s with heap:=h',toks:=t'}:=by
 have nit:∀b u,H b=some u->b≠it:=λb u e z=>by rw[z,hn]at e;cases e
 refine I.step (g':=s.gens) (d':=s.drawn) (ch:=[it]) (λb hb=>?_) (λb o _ _ hc e _=>k b o (λz=>hc (by simp[z])) e) (λb o _ _ hc e _=>⟨o.slots,k b o (λz=>hc (by simp[z])) e⟩) (λ_ _ _ _ n=>n)
  (λb o hc e=>⟨o,k b o (λz=>hc (by simp[z])) e⟩) (λ_ _ e=>e) (λ_ _ _ e=>e) (λb ps e=>⟨#[],by rw[e];simp⟩) (λm hm=>?_) (λb u e=>?_) I.bare
 ·have e:b=it:=by simpa using hb
  subst e;exact⟨h1,hL,h2,h3⟩
 ·obtain⟨o,es,ep,ho,r⟩:=hm;exact⟨o,es,ep,k _ o (Ne.symm hL) ho,r⟩
 ·refine(I.hok b u e).stay (λc v hc q=>k c v ?_ q) (λ_ q=>q) λ_ _ q=>q;rcases hc with z|z
  ·rw[z];exact nit b u e
  ·exact nit c _ z
theorem Inv.tok(I:Inv X pins σ H s)(t:Nat):Inv X pins σ H {s with toks:=t}:=I.un (h':=s.heap) (t':=t) Un.refl I.hok
theorem Inv.kept{t':Nat}(I:Inv X pins σ H s)(k:∀b u,s.heap.get? b=some u->h'.get? b=some u):Inv X pins σ H {s with heap:=h',toks:=t'}:=I.un (Un.kept k) (I.hok.kept k)
theorem Inv.laid{a:Qj}{o:HO}{t':Nat}(I:Inv X pins σ H s)(k:∀b u,s.heap.get? b=some u->h'.get? b=some u)(hp:s.heap.objs.size<=a)(new:cJ X.prog X.w (upd H a o) h' a o):
  Inv X pins σ (upd H a o) {s with heap:=h',toks:=t'}:=I.un (Un.laid k hp (I.hok.fresh hp)) (I.hok.laid k hp new)
theorem Inv.write{x e:Qj}{o:HO}{t':Nat}(I:Inv X pins σ H s)(mu:Io (H x))(he:e=x\/H e=some (.own x))(k:∀b u,b≠e->s.heap.get? b=some u->h'.get? b=some u)(heo:∃u,h'.get? e=some u)
  (new:cJ X.prog X.w (upd H x o) h' x o):Inv X pins σ (upd H x o) {s with heap:=h',toks:=t'}:=I.un (Un.write mu he k heo) (I.hok.write mu he k heo new)
theorem Inv.pins_of{pins':List (Qj×Obj)}(I:Inv X pins σ H s)(h:∀p∈pins',s.heap.get? p.1=some p.2/\H p.1=none/\p.1≠X.env.locals/\p.1∉X.fs/\∀v,p.2.data≠.cell v):Inv X pins' σ H s:=
 ⟨I.ok,I.os,I.bare,I.base,I.loc,I.cell,I.free,I.freeC,λp hp=>(List.mem_append.mp hp).elim (λz=>I.pin p (Mx _ z)) (h p),I.hok,I.len⟩
theorem wJ{N:List Str}(hN:N.Nodup){i j:Nat}{x:Str}(a:N[i]?=some x)(b:N[j]?=some x):i=j:=by
 obtain⟨h1,e1⟩:=List.getElem?_eq_some_iff.mp a;obtain⟨h2,e2⟩:=List.getElem?_eq_some_iff.mp b;exact(List.getElem_inj hN).mp (e1.trans e2.symm)
theorem ug{M:Model}{A:Qr}{E:Qg->Qs->Prop}{i:Nat}{x:Str}{v:V}{u:Qg}{Q:Unit->Qs->Prop}(I:Inv X pins σ H s)(hN:X.N.Nodup)(hi:X.N[i]?=some x)(hx:Loc X.env.scope x)(r:RelV v u)
  (h:∀s',Inv X pins (σ.set i (some v)) H s'->(∃a,PH a s.heap s'.heap/\(a=X.env.locals\/X.env.cells.lookup x=some a))->Q () s') (hf:X.fn x=true\/X.env.scope.names.lookup x=some .local:=by first|exact .inl rfl|exact .inr rfl|assumption):Qu M A (storeName X.env x u) Q E s:=by
 obtain⟨m,hn,hl⟩:=id I.loc;have hcls:(X.env.scope.kind==.class||(X.env.scope.kind==.module&&X.env.locals !=X.env.globals))=false:=by rw[I.ok.kind];rfl
 have hiσ:i<σ.length:=by rw[I.len];exact(List.getElem?_eq_some_iff.mp hi).1
 have cne:=I.cne;have tracked:∀{a:Qj}{h':Ql},(∃o,s.heap.get? a=some o/\H a=none)->PH a s.heap h'->oj X.prog X.w H h':=λ{a h'} ha hs b ob e=>by
  obtain⟨_,_,hfree⟩:=ha;refine(I.hok b ob e).stay (λc w' hc q=>(hs.2 c ?_).trans q) (λ_ q=>q) λ_ _ q=>q;rintro rfl;rcases hc with rfl|hc
  ·rw[hfree]at e;cases e
  ·rw[hfree]at hc;cases hc
 rcases hx with hk|hk
 ·refine wpAny_storeName_local hk hn (λh' hn' hs=>?_) hcls;obtain⟨oL,_,_,hoL,_⟩:=id hn;refine h _ ⟨I.ok,I.os,I.bare,⟨λb o e n hb hx=>?_,λb o e n hb hx=>?_,I.base.free,λb o e hx=>?_,I.base.tups,I.base.frzs,I.base.tbls⟩,⟨_,hn',λj y v' e1 e2 e3=>?_⟩,λy c e=>?_,I.free,I.freeC,λp hp=>?_,tracked ⟨oL,hoL,I.free⟩ hs,by simpa using I.len⟩ ⟨_,hs,.inl rfl⟩
  ·exact(hs.2 b (Mq (Mo (PD e) I.ok.above))).trans (I.base.keep b o e n hb hx)
  ·obtain⟨sl,e1⟩:=I.base.slot b o e n hb hx;exact⟨sl,(hs.2 b (Mq (Mo (PD e) I.ok.above))).trans e1⟩
  ·obtain⟨o',e1⟩:=I.base.there b o e hx;exact⟨o',(hs.2 b (Mq (Mo (PD e) I.ok.above))).trans e1⟩
  ·by_cases hj:j=i
   ·subst hj;rw[hi]at e1;cases e1;rw[My hiσ]at e2;cases e2;exact⟨u,r,.inl ⟨hk,by simp⟩⟩
   ·rw[Mz (Ne.symm hj)]at e2;obtain⟨u',r',q⟩:=hl j y v' e1 e2 e3;refine⟨u',r',?_⟩;rcases q with⟨k,e⟩|⟨k,c,e,z⟩
    ·refine .inl ⟨k,?_⟩
     have:y≠x:=λe=>hj (wJ hN e1 (e ▸ hi))
     simp[this,e]
    ·exact .inr ⟨k,c,e,z.sameBut hs (cne y c e)⟩
  ·obtain⟨w',z⟩:=I.cell y c e;exact⟨w',z.sameBut hs (cne y c e)⟩
  ·obtain⟨e,n,ne,nf,d⟩:=I.pin p hp;exact⟨(hs.2 p.1 ne).trans e,n,ne,nf,d⟩
 ·have hfn:X.fn x=true:=by
   rcases hf with z|z
   ·exact z
   ·rw[z]at hk;cases hk
  obtain⟨c,hc⟩:=I.ok.has x (.inl hk);obtain⟨w',z⟩:=I.cell x c hc;refine wpAny_storeName_cell I.ok.kind hk hc z (λh' hc' hs=>?_);obtain⟨oc,hoc,hocd⟩:=id z;refine h {s with heap:=h'} ⟨I.ok,I.os,I.bare,⟨λb o e n hb hx=>?_,λb o e n hb hx=>?_,I.base.free,λb o e hx=>?_,I.base.tups,I.base.frzs,I.base.tbls⟩,⟨m,hn.sameBut hs (Ne.symm (cne x c hc)),λj y v' e1 e2 e3=>?_⟩,λy c' e=>?_,I.free,I.freeC,λp hp=>?_,tracked ⟨oc,hoc,I.freeC x c hc⟩ hs,by simpa using I.len⟩ ⟨c,hs,.inr hc⟩
  ·exact(hs.2 b (Mq (Mo (PD e) (I.ok.cab x c hfn hc)))).trans (I.base.keep b o e n hb hx)
  ·obtain⟨sl,e1⟩:=I.base.slot b o e n hb hx;exact⟨sl,(hs.2 b (Mq (Mo (PD e) (I.ok.cab x c hfn hc)))).trans e1⟩
  ·obtain⟨o',e1⟩:=I.base.there b o e hx;exact⟨o',(hs.2 b (Mq (Mo (PD e) (I.ok.cab x c hfn hc)))).trans e1⟩
  ·by_cases hj:j=i
   ·subst hj;rw[hi]at e1;cases e1;rw[My hiσ]at e2;cases e2;exact⟨u,r,.inr ⟨.inl hk,c,hc,hc'⟩⟩
   ·rw[Mz (Ne.symm hj)]at e2;obtain⟨u',r',q⟩:=hl j y v' e1 e2 e3;refine⟨u',r',?_⟩;rcases q with q|⟨k,c',e,z'⟩
    ·exact .inl q
    ·refine .inr ⟨k,c',e,z'.sameBut hs ?_⟩;rintro rfl;exact hj (wJ hN e1 (I.ok.inj _ _ _ e hc ▸ hi))
  ·by_cases hcc:c'=c
   ·subst hcc;exact⟨_,hc'⟩
   ·obtain⟨w2,z2⟩:=I.cell y c' e;exact⟨w2,z2.sameBut hs hcc⟩
  ·obtain⟨e,n,ne,nf,d⟩:=I.pin p hp;refine⟨(hs.2 p.1 ?_).trans e,n,ne,nf,d⟩;intro q;rw[q,hoc]at e;have q':oc=p.2:=Option.some.inj e;exact d w' (by rw[<-q'];exact hocd)
theorem xx{M:Model}{A:Qr}{E:Qg->Qs->Prop}{i:Nat}{x:Str}{v:V}{u:Qg}{Q:Unit->Qs->Prop}(I:Inv X pins σ H s)(hN:X.N.Nodup)(hi:X.N[i]?=some x)(hx:Loc X.env.scope x)(r:RelV v u)
  (h:∀s',Inv X pins (σ.set i (some v)) H s'->Q () s') (hf:X.fn x=true\/X.env.scope.names.lookup x=some .local:=by first|exact .inl rfl|exact .inr rfl|assumption):Qu M A (storeName X.env x u) Q E s:=
 ug I hN hi hx r (λs' I' _=>h s' I') hf
theorem Inv.call'{s':Qs}{ch:List Qj}(I:Inv X pins σ H s)(ho:s'.os=s.os)(u:Un (frs X.stack) ch H H' s.heap s'.heap)(hok:oj X.prog X.w H' s'.heap)(hg:AllBare s'.gens)
  (hch:∀b∈ch,(b∈X.ex\/X.s₀.heap.objs.size<=b)/\b≠X.env.locals/\(∀x c,X.env.cells.lookup x=some c->c≠b)/\∀p∈X.pn++pins,p.1≠b):Inv X pins σ H' s':=by
 obtain⟨h',g',d',t',o'⟩:=s';have e:o'=s.os:=ho;subst e;exact I.call (g':=g') (t':=t') (d':=d') u hok hg hch
end
abbrev XK:=Qg->Option Qj->Hp->Prop
abbrev St:=List (Option V)
abbrev VK:=V->Hp->Prop
abbrev TE:=St->Hp->VK->Prop
abbrev TT:=St->Hp->(Bool->Hp->Prop)->Prop
abbrev TA:=St->Hp->(List V->Hp->Prop)->Prop
structure Ends where
 nx:St->Hp->Prop
 rt:VK
 bk:St->Hp->Prop:=λ_ _=>False
 ct:St->Hp->Prop:=λ_ _=>False
abbrev TS:=Ends->St->Hp->Prop
def EP(X:Cx)(pins:List (Qj×Obj))(σ:St)(Q:VK)(u:Qg)(s':Qs):Prop:=∃v H',Inv X pins σ H' s'/\RelV v u/\Q v H'
def TP(X:Cx)(pins:List (Qj×Obj))(σ:St)(Q:Bool->Hp->Prop)(b:Bool)(s':Qs):Prop:=∃H',Inv X pins σ H' s'/\Q b H'
def AP(X:Cx)(pins:List (Qj×Obj))(σ:St)(Q:List V->Hp->Prop)(us:List Qg)(s':Qs):Prop:=∃vs H',Inv X pins σ H' s'/\Vals vs us/\Q vs H'
def SP(X:Cx)(pins:List (Qj×Obj))(D:Ends)(f:Flow)(s':Qs):Prop:=
 match f with
 |.next=>∃σ' H',Inv X pins σ' H' s'/\D.nx σ' H'
 |.brk=>∃σ' H',Inv X pins σ' H' s'/\D.bk σ' H'
 |.cont=>∃σ' H',Inv X pins σ' H' s'/\D.ct σ' H'
 |.ret u=>∃v σ' H',Inv X pins σ' H' s'/\RelV v u/\D.rt v H'
def PE(X:Cx)(e:Qv)(t:TE):Prop:=
 ∀(pins:List (Qj×Obj))(s:Qs)(σ:St)(H:Hp)(Q:VK),Inv X pins σ H s->t σ H Q->Qu (model X.prog X.w) X.A (eval e X.env) (EP X pins σ Q) X.xe s
def PT(X:Cx)(e:Qv)(t:TT):Prop:=
 ∀(pins:List (Qj×Obj))(s:Qs)(σ:St)(H:Hp)(Q:Bool->Hp->Prop),Inv X pins σ H s->t σ H Q->Qu (model X.prog X.w) X.A (isTrue e X.env (eval e X.env)) (TP X pins σ Q) X.xe s
def PW(X:Cx)(e:Qv)(t:TT):Prop:=
 ∀(whole:Sem Qg)(pins:List (Qj×Obj))(s:Qs)(σ:St)(H:Hp)(Q:Bool->Hp->Prop),Inv X pins σ H s->t σ H Q->Qu (model X.prog X.w) X.A (isTrue e X.env whole) (TP X pins σ Q) X.xe s
theorem PW.pt{X:Cx}{e:Qv}{t:TT}(h:PW X e t):PT X e t:=h _
def PA(X:Cx)(es:List Qv)(t:TA):Prop:=
 ∀(pos:Pos)(pins:List (Qj×Obj))(s:Qs)(σ:St)(H:Hp)(Q:List V->Hp->Prop),Inv X pins σ H s->t σ H Q->Qu (model X.prog X.w) X.A (spliced (backTo pos (Qw es X.env))) (AP X pins σ Q) X.xe s
def PS(X:Cx)(st:Qx)(t:TS):Prop:=
 ∀(pins:List (Qj×Obj))(s:Qs)(σ:St)(H:Hp)(D:Ends),Inv X pins σ H s->t D σ H->Qu (model X.prog X.w) X.A (exec st X.env) (SP X pins D) X.xe s
def AD(X:Cx)(st:List Qx)(t:TS):Prop:=
 ∀(pins:List (Qj×Obj))(s:Qs)(σ:St)(H:Hp)(D:Ends),Inv X pins σ H s->t D σ H->Qu (model X.prog X.w) X.A (execs st X.env) (SP X pins D) X.xe s
theorem eJ{α:Type}{t:Sem α}{Q Q':α->Qs->Prop}{M:Model}{A:Qr}{E:Qg->Qs->Prop}{s:Qs}(h:Qu M A t Q E s)(hQ:∀a s,Q a s->Q' a s):Qu M A t Q' E s:=Qy h hQ λ_ _ x=>x
section
variable{X:Cx}
def wG(i:Nat):TE:=λσ H Q=>∃v,σ[i]?=some (some v)/\Q v H
def tC(v:V):TE:=λ_ H Q=>Q v H
theorem FR{i:Nat}{x:Str}{pos:Pos}(hN:X.N[i]?=some x)(hv:Gi X.env.scope x)(hd:(x==("__debug__":Str))=false:=by decide)(hcd:(x==("__classdict__":Str))=false:=by decide):PE X (.Name x pos) (wG i):=by
 intro pins s σ H Q I h;obtain⟨v,e,h⟩:=h;obtain⟨m,hn,hl⟩:=I.loc;obtain⟨u,r,l⟩:=hl i x v hN e hv;have fin:EP X pins σ Q u s:=⟨v,H,I,r,h⟩
 rcases l with⟨hk,hm⟩|⟨hk,c,hc,hcell⟩
 ·exact Qz (wpAny_loadName_local I.ok.kind hk hn hm fin) hd
 ·rcases hk with hk|hk
  ·exact Qz (wpAny_loadName_cell I.ok.kind hk hc hcell fin) hd
  ·exact Qz (wpAny_loadName_free I.ok.kind hk hc hcell fin hcd) hd
theorem By{i j pos}:PE X (.Constant (.int i) j pos) (tC (.int i)):=λ_ _ _ H _ I h=>wpAny_Constant_int ⟨.int i,H,I.tok _,⟨_,rfl⟩,h⟩
theorem Hv{b j pos}:PE X (.Constant (.bool b) j pos) (tC (.bl b)):=λ_ _ _ H _ I h=>Constant_bool ⟨.bl b,H,I,rfl,h⟩
theorem Gw{x j pos}:PE X (.Constant (.str x) j pos) (tC (.str x)):=λ_ _ _ H _ I h=>Calls.Constant_str ⟨.str x,H,I.tok _,⟨_,rfl⟩,h⟩
def Gl(X:Cx)(x:Str):Prop:=X.env.kindOf x=some .globalImplicit
theorem zg{E:Qg->Qs->Prop}{pins:List (Qj×Obj)}{s:Qs}{σ:St}{H:Hp}{x:Str}{u:Qg}{pos:Pos}{Q:Qg->Qs->Prop}(I:Inv X pins σ H s)(hg:Gl X x)(hm:X.mg x=some u)(h:Q u s)
  (hd:(x==("__debug__":Str))=false:=by decide):Qu (model X.prog X.w) X.A (eval (.Name x pos) X.env) Q E s:=
 Calls.Name_function_global I.ok.kind hg (Calls.loadGlobal_global (by rw[I.ok.glob];exact I.mod.glob.keeps I.bk) hm h) hd
theorem lx{E:Qg->Qs->Prop}{pins:List (Qj×Obj)}{s:Qs}{σ:St}{H:Hp}{x:Str}{u:Qg}{pos:Pos}{Q:Qg->Qs->Prop}(I:Inv X pins σ H s)(hg:Gl X x)(hm:X.mg x=none)(hv:Qq x=some u)(h:Q u s)
  (hn:x≠"__name__":=by decide) (hd:(x==("__debug__":Str))=false:=by decide):Qu (model X.prog X.w) X.A (eval (.Name x pos) X.env) Q E s:=by
 obtain⟨mb,h1,h2⟩:=I.mod.blt;exact Calls.Name_function_global I.ok.kind hg (Calls.loadGlobal_builtin (by rw[I.ok.glob];exact I.mod.glob.keeps I.bk) hm (by rw[I.ok.blt];exact h1.keeps I.bk) ((h2 x hn).trans hv) h) hd
theorem Dv{x:Str}{v:V}{u:Qg}{pos:Pos}(hg:Gl X x)(hm:X.mg x=none)(hv:Qq x=some u)(r:RelV v u)(hn:x≠"__name__":=by decide)(hd:(x==("__debug__":Str))=false:=by decide):PE X (.Name x pos) (tC v):=
 λ_ _ _ H _ I h=>lx I hg hm hv ⟨v,H,I,r,h⟩ hn hd
variable{a b:Qv}{ta tb:TE}{pos:Pos}
def tB(t:TE):TT:=λσ H Q=>t σ H λx H1=>∃c,x=.bl c/\Q c H1
variable{tA tB':TT}{rest:List Qv}
def Lv(t u:TT):TT:=λσ H Q=>t σ H λc H1=>if c=true then u σ H1 Q else Q false H1
def Mf(t u:TT):TT:=λσ H Q=>t σ H λc H1=>if c=true then Q true H1 else u σ H1 Q
def Ly(t:TT):TT:=λσ H Q=>t σ H λc H1=>Q (!c) H1
theorem Ei(ha:PT X a tA):PW X (.BoolOp .And [a] pos) tA:=by
 intro wh pins s σ H Q I h;refine isTrue_and (eJ (ha pins s σ H Q I h) λc s1 e=>?_);cases c with
 |true=>exact isTrue_and_nil e
 |false=>exact e
theorem FD(ha:PT X a tA):PW X (.BoolOp .Or [a] pos) tA:=by
 intro wh pins s σ H Q I h;refine isTrue_or (eJ (ha pins s σ H Q I h) λc s1 e=>?_);cases c with
 |false=>exact isTrue_or_nil e
 |true=>exact e
theorem Gm(ha:PT X a tA)(hb:PW X (.BoolOp .And (b::rest) pos) tB'):PW X (.BoolOp .And (a::b::rest) pos) (Lv tA tB'):=by
 intro wh pins s σ H Q I h;refine isTrue_and (eJ (ha pins s σ H _ I h) λc s1 ⟨H1,I1,q1⟩=>?_);cases c with
 |true=>exact hb wh pins s1 σ H1 Q I1 q1
 |false=>exact⟨H1,I1,q1⟩
theorem HI(ha:PT X a tA)(hb:PW X (.BoolOp .Or (b::rest) pos) tB'):PW X (.BoolOp .Or (a::b::rest) pos) (Mf tA tB'):=by
 intro wh pins s σ H Q I h;refine isTrue_or (eJ (ha pins s σ H _ I h) λc s1 ⟨H1,I1,q1⟩=>?_);cases c with
 |true=>exact⟨H1,I1,q1⟩
 |false=>exact hb wh pins s1 σ H1 Q I1 q1
theorem Hg(ha:PT X a tA):PT X (.UnaryOp .Not a pos) (Ly tA):=by
 intro pins s σ H Q I h;exact isTrue_not (ha pins s σ H (λc H1=>Q (!c) H1) I h)
def HY(ta tb:TE):TE:=λσ H Q=>ta σ H λx H1=>∃c,x=.bl c/\if c=true then tb σ H1 Q else Q (.bl false) H1
theorem Ha{op}{t:TE}(h:PE X a t):PE X (.BoolOp op [a] pos) t:=λpins s σ H Q I hw=>BoolOp_one (h pins s σ H Q I hw)
theorem Gn(ha:PE X a ta)(hb:PE X (.BoolOp .And (b::rest) pos) tb):PE X (.BoolOp .And (a::b::rest) pos) (HY ta tb):=by
 intro pins s σ H Q I h;refine BoolOp_and (eJ (ha pins s σ H _ I h) λv s1 ⟨x,H1,I1,r1,q1⟩=>?_);obtain⟨c,rfl,q1⟩:=q1;cases r1;refine QA ?_;cases c with
 |true=>exact hb pins s1 σ H1 Q I1 q1
 |false=>exact⟨.bl false,H1,I1,rfl,q1⟩
end
def nG(K:OZ)(H:Hp)(a:Qj)(xs:List V):Prop:=
 Rd H a (.lst xs) \/
  ∃(o:Obj)(its:Array Qg)(n:Nat),K.lookup a=some o/\o.cls=.type "list"/\o.dict=none/\o.data=.seq its n/\its.size<=Qm/\Vals xs its.toList
def oF(K:OZ)(H:Hp)(a:Qj)(xs:List V):Prop:=
 Rd H a (.tup xs) \/
  ∃(o:Obj)(its:Array Qg)(n:Nat),K.lookup a=some o/\o.cls=.type "tuple"/\o.data=.seq its n/\its.size<=Qm/\Vals xs its.toList
def J5:Qg->Option V
 |.none=>some .non
 |.bool b=>some (.bl b)
 |.int i _=>some (.int i)
 |.str x _=>some (.str x)
 |.bytes b _=>some (.byt b)
 |.float b _=>some (.flt b)
 |.ref a=>some (.ref a)
 |.type n=>some (.ty n)
 |_=>none
theorem RelV.abs{x:V}{u:Qg}(r:RelV x u):J5 u=some x:=by
 cases x with
 |non=>cases r;rfl
 |bl _=>cases r;rfl
 |int _=>obtain⟨t,rfl⟩:=r;rfl
 |str _=>obtain⟨t,rfl⟩:=r;rfl
 |byt _=>obtain⟨t,rfl⟩:=r;rfl
 |flt _=>obtain⟨t,rfl⟩:=r;rfl
 |ref _=>cases r;rfl
 |ty _=>cases r;rfl
theorem RelV.inj{x y:V}{u:Qg}(r:RelV x u)(q:RelV y u):x=y:=Option.some.inj (r.abs.symm.trans q.abs)
theorem Vals.inj:∀{xs ys:List V}{us:List Qg},Vals xs us->Vals ys us->xs=ys
 |_,_,_,.nil,.nil=>rfl
 |_,_,_,.cons r t,.cons r' t'=>by rw[r.inj r',Vals.inj t t']
section
variable{X:Cx}{pins:List (Qj×Obj)}{σ:St}{H:Hp}{s:Qs}{a:Qj}{xs ys:List V}
theorem nG.of{K:OZ}(h:H a=some (.lst xs)):nG K H a xs:=.inl (.inl h)
theorem oF.of{K:OZ}(h:H a=some (.tup xs)):oF K H a xs:=.inl (.inl h)
theorem Inv.list(I:Inv X pins σ H s)(h:nG X.K H a xs):∃its:List Qg,Vals xs its/\PlainL s.heap a its.toArray/\xs.length<=Qm:=by
 rcases h with h|⟨o,its,n,hk,hc,hd,hs,hz,r⟩
 ·obtain⟨z,its,n,r,e⟩:=h.ok I.hok;exact⟨its,r,⟨_,n,e,rfl,rfl,rfl⟩,z⟩
 ·refine⟨its.toList,r,⟨o,n,I.kIn a o hk,hc,hd,by simpa using hs⟩,?_⟩;have e:=r.length;simp only[Array.length_toList]at e;omega
theorem Inv.tuple(I:Inv X pins σ H s)(h:oF X.K H a xs):∃its:List Qg,Vals xs its/\Qn s.heap a its.toArray/\xs.length<=Qm:=by
 rcases h with h|⟨o,its,n,hk,hc,hs,hz,r⟩
 ·obtain⟨z,its,r,p⟩:=h.ok I.hok;exact⟨its,r,p,z⟩
 ·refine⟨its.toList,r,⟨o,I.kIn a o hk,hc,n,by simpa using hs⟩,?_⟩;have e:=r.length;simp only[Array.length_toList]at e;omega
theorem Inv.list_inj(I:Inv X pins σ H s)(h:nG X.K H a xs)(h':nG X.K H a ys):xs=ys:=by
 obtain⟨its,r,⟨o,n,e,_,_,d⟩,_⟩:=I.list h;obtain⟨its',r',⟨o',n',e',_,_,d'⟩,_⟩:=I.list h';rw[e]at e';cases e';rw[d]at d';injection d' with d1 _
 have:its=its':=by simpa using congrArg Array.toList d1
 subst this;exact r.inj r'
theorem Inv.tuple_inj(I:Inv X pins σ H s)(h:oF X.K H a xs)(h':oF X.K H a ys):xs=ys:=by
 obtain⟨its,r,⟨o,e,_,n,d⟩,_⟩:=I.tuple h;obtain⟨its',r',⟨o',e',_,n',d'⟩,_⟩:=I.tuple h';rw[e]at e';cases e';rw[d]at d';injection d' with d1 _
 have:its=its':=by simpa using congrArg Array.toList d1
 subst this;exact r.inj r'
end
section
variable{X:Cx}{st:Qx}{rest:List Qx}{t u:TS}{e:Qv}{te:TE}{pos:Pos}
def HA:TS:=λD σ H=>D.nx σ H
def K4(t u:TS):TS:=λD σ H=>t {D with nx:=u D} σ H
theorem Eh:AD X [] HA:=λ_ _ σ H _ I h=>QB ⟨σ,H,I,h⟩
theorem CK(h1:PS X st t)(h2:AD X rest u):AD X (st::rest) (K4 t u):=by
 intro pins s σ H D I h;refine wpAny_execs_cons (eJ (h1 pins s σ H {D with nx:=u D} I h) λf s1 q=>?_);cases f with
 |next=>
  obtain⟨σ',H',I',q⟩:=q;exact h2 pins s1 σ' H' D I' q
 |ret v=>exact q
 |brk=>exact q
 |cont=>exact q
theorem DW(h1:PS X st t):AD X [st] t:=by
 intro pins s σ H D I h;refine wpAny_execs_cons (eJ (h1 pins s σ H D I h) λf s1 q=>?_);cases f with
 |next=>exact QB q
 |ret v=>exact q
 |brk=>exact q
 |cont=>exact q
theorem Inv.quiet{pins:List (Qj×Obj)}{σ:St}{H:Hp}{s:Qs}(I:Inv X pins σ H s):interactive X.env=false:=by simp[interactive,I.ok.kind]
def Iz(te:TE):TS:=λD σ H=>te σ H λ_ H1=>D.nx σ H1
theorem yP(he:PE X e te)(hs:swapsWith e none pos.line X.env=pure false:=by rfl):PS X (.Expr e pos) (Iz te):=by
 intro pins s σ H D I h;exact wpAny_Expr_any (eJ (he pins s σ H _ I h) λv s1 ⟨x,H1,I1,r1,q1⟩=>⟨σ,H1,I1,q1⟩) I.quiet hs
def Lx(te:TE):TS:=λD σ H=>te σ H D.rt
theorem Hf(he:PE X e te):PS X (.Return (some e) pos) (Lx te):=by
 intro pins s σ H D I h;exact wpAny_Return_some (eJ (he pins s σ H _ I h) λv s1 ⟨x,H1,I1,r1,q1⟩=>⟨x,σ,H1,I1,r1,q1⟩)
def Kn(c:TT)(t u:TS):TS:=λD σ H=>c σ H λb H1=>if b=true then t D σ H1 else u D σ H1
theorem Ip{c:Qv}{a b:List Qx}{tc:TT}(hc:PT X c tc)(ha:AD X a t)(hb:AD X b u):PS X (.If c a b pos) (Kn tc t u):=by
 intro pins s σ H D I h;refine wpAny_If (eJ (hc pins s σ H _ I h) λd s1 ⟨H1,I1,q1⟩=>?_);cases d with
 |true=>exact ha pins s1 σ H1 D I1 q1
 |false=>exact hb pins s1 σ H1 D I1 q1
end
abbrev TG:=V->St->Hp->(St->Hp->Prop)->Prop
abbrev Fj:=List V->St->Hp->(St->Hp->Prop)->Prop
def PG(X:Cx)(target:Qv)(t:TG):Prop:=
 ∀(pins:List (Qj×Obj))(s:Qs)(σ:St)(H:Hp)(v:V)(u:Qg)(Q:St->Hp->Prop),Inv X pins σ H s->RelV v u->t v σ H Q->
  Qu (model X.prog X.w) X.A (assign target X.env u) (λ_ s'=>∃σ' H',Inv X pins σ' H' s'/\Q σ' H') X.xe s
def Iw(X:Cx)(ts:List Qv)(t:Fj):Prop:=
 ∀(pins:List (Qj×Obj))(s:Qs)(σ:St)(H:Hp)(vs:List V)(us:List Qg)(Q:St->Hp->Prop),Inv X pins σ H s->Vals vs us->t vs σ H Q->
  Qu (model X.prog X.w) X.A (assignInOrder ((assignEach ts X.env).map (·.2)) us) (λ_ s'=>∃σ' H',Inv X pins σ' H' s'/\Q σ' H') X.xe s
section
variable{X:Cx}{pos:Pos}
def uj(i:Nat):TG:=λv σ H Q=>Q (σ.set i (some v)) H
theorem DP{i:Nat}{x:Str}(hN:X.N.Nodup)(hi:X.N[i]?=some x)(hx:Loc X.env.scope x)(hf:X.fn x=true\/X.env.scope.names.lookup x=some .local:=by first|exact .inl rfl|exact .inr rfl|assumption):PG X (.Name x pos) (uj i):=by
 intro pins s σ H v u Q I r h;exact wpAny_assign_Name (xx I hN hi hx r (λs' I'=>⟨_,H,I',h⟩) hf)
def JQ:Fj:=λvs σ H Q=>vs=[]/\Q σ H
def Ia(t:TG)(u:Fj):Fj:=λvs σ H Q=>∃v r,vs=v::r/\t v σ H λσ' H'=>u r σ' H' Q
theorem Du:Iw X [] JQ:=by
 intro pins s σ H vs us Q I r h;obtain⟨e,h⟩:=h;subst e;cases r;exact assignInOrder_nil ⟨σ,H,I,h⟩
theorem BP{e:Qv}{es:List Qv}{t:TG}{u:Fj}(h1:PG X e t)(h2:Iw X es u)
  (hs:(assignEach (e::es) X.env).map (·.2)=assign e X.env::(assignEach es X.env).map (·.2):=by rfl):Iw X (e::es) (Ia t u):=by
 intro pins s σ H vs us Q I r h;obtain⟨v,vr,e1,h⟩:=h;subst e1;cases r with
 |cons r rr=>
  rw[hs];refine assignInOrder_cons (eJ (h1 pins s σ H _ _ _ I r h) λ_ s1 ⟨σ1,H1,I1,q1⟩=>?_);exact h2 pins s1 σ1 H1 _ _ Q I1 rr q1
def Kr(K:OZ)(n:Nat)(t:Fj):TG:=λv σ H Q=>∃a xs,v=.ref a/\oF K H a xs/\xs.length=n/\t xs σ H Q
theorem He{es:List Qv}{k:Nat}{t:Fj}{n:Nat}(hc:X.calm=true)(h:Iw X es t)
  (hn:(assignEach es X.env).length=n:=by rfl) (hst:(assignEach es X.env).findIdx? (·.1)=none:=by rfl):PG X (.Tuple es k pos) (Kr X.K n t):=by
 intro pins s σ H v u Q I r hw;obtain⟨a,xs,e1,hq,hl,hw⟩:=hw;subst e1;cases r;obtain⟨its,rv,ht,hz⟩:=I.tuple hq;refine assign_Tuple_tuple (I.ok.hd hc) ht (by simp[hn,<-hl,rv.length]) hst λh' hx=>?_;have I1:Inv X pins σ H {s with heap:=h'}:=I.kept (t':=s.toks) λb o e=>hx b o (Mq (PD e)) e;exact h pins _ σ H xs _ Q I1 (by simpa using rv) hw
def Bt(te:TE)(g:TG):TS:=λD σ H=>te σ H λx H1=>g x σ H1 D.nx
theorem FL{tg e:Qv}{te:TE}{g:TG}(he:PE X e te)(hg:PG X tg g)(hs:swapsWithSole [tg] e pos.line X.env=pure false:=by rfl)(hw:swappedStores [tg] e X.env=pure none:=by rfl)
  (h1:(assignEach [tg] X.env).map (·.2)=[assign tg X.env]:=by rfl):PS X (.Assign [tg] e pos) (Bt te g):=by
 intro pins s σ H D I h;refine wpAny_Assign_stores (eJ (he pins s σ H _ I h) λv s1 ⟨x,H1,I1,r1,q1⟩=>?_) hs hw;rw[h1];exact eJ (hg pins s1 σ H1 x v _ I1 r1 q1) λ_ s2 q=>q
theorem xZ{i:Nat}{x:Str}{e:Qv}{te:TE}{pos':Pos}(hN:X.N.Nodup)(hi:X.N[i]?=some x)(hx:Loc X.env.scope x)(he:PE X e te)(hs:swapsWith e (some (.Name x pos')) pos.line X.env=pure false:=by rfl)(hf:X.fn x=true\/X.env.scope.names.lookup x=some .local:=by first|exact .inl rfl|exact .inr rfl|assumption):
  PS X (.Assign [.Name x pos'] e pos) (Bt te (uj i)):=by
 intro pins s σ H D I h;refine wpAny_Assign_Name (eJ (he pins s σ H _ I h) λv s1 ⟨y,H1,I1,r1,q1⟩=>?_) hs;exact xx I1 hN hi hx r1 (λs2 I2=>⟨_,H1,I2,q1⟩) hf
end
structure It where
 go:Nat->Hp->Prop
 yld:Nat->Hp->V->Hp->Prop
 stop:Nat->Hp->Prop
def sr(X:Cx)(pins:List (Qj×Obj))(H:Hp)(b:Qj):Prop:=
 H b=none/\b≠X.env.locals/\b∉X.fs/\(b∈X.ex\/X.s₀.heap.objs.size<=b)/\(∀x c,X.env.cells.lookup x=some c->c≠b)/\∀p∈X.pn++pins,p.1≠b
theorem Inv.fpOk{X:Cx}{pins:List (Qj×Obj)}{σ:St}{H H':Hp}{s:Qs}{b:Qj}(I:Inv X pins σ H s)(hb:s.heap.objs.size<=b)(hn:H' b=none):sr X pins H' b:=by
 refine⟨hn,MA (Mo I.lt hb),I.nofs hb,.inr (Mr I.sz hb),λx c e z=>?_,λp hp z=>?_⟩
 ·obtain⟨v,q⟩:=I.cell x c e;exact absurd (Mo q.lt (by rw[z];exact hb)) (Mp _)
 ·exact absurd (Mo (PD (I.pin p hp).1) (by rw[z];exact hb)) (Mp _)
structure Turn(P:Qi)(w:Qh)(K:OZ)(tg:Qv)(J:It)(fp:List Qj)(it:Qj)(tn:Nat->Ql->Prop):Prop where
 mem:it∈fp
 obj:∀i h,tn i h->∀b∈fp,∃o,h.get? b=some o/\∀v,o.data≠.cell v
 keep:∀i h h',tn i h->(∀b∈fp,∀o,h.get? b=some o->h'.get? b=some o)->tn i h'
 item:∀(X:Cx),X.prog=P->X.w=w->X.K=K->X.calm=true->∀(i:Nat)(pins:List (Qj×Obj))(s:Qs)(σ:St)(H:Hp)(E:Qg->Qs->Prop),Inv X pins σ H s->(∀b∈fp,sr X pins H b)->tn i s.heap->J.go i H->
  Qu (model P w) X.A (pyNext (.ref it)) (λr s1=>∃u,r=some u/\
   Qu (model P w) X.A (letOwnedTupleGo tg (.ref it) u) (λ_ s2=>∃x H',Inv X pins σ H' s2/\RelV x u/\J.yld i H x H'/\tn (i+1) s2.heap/\∀b∈fp,H' b=none) E s1) E s
 done:∀(X:Cx),X.prog=P->X.w=w->X.K=K->X.calm=true->∀(i:Nat)(pins:List (Qj×Obj))(s:Qs)(σ:St)(H:Hp)(E:Qg->Qs->Prop),Inv X pins σ H s->(∀b∈fp,sr X pins H b)->tn i s.heap->J.stop i H->
  Qu (model P w) X.A (pyNext (.ref it)) (λr s1=>r=none/\Inv X pins σ H s1) E s
 self:∀(A:Qr)(i:Nat)(s:Qs)(Q:Qg->Qs->Prop)(E:Qg->Qs->Prop),tn i s.heap->Q (.ref it) s->Qu (model P w) A (pyIter (.ref it)) Q E s
abbrev TI:=St->Hp->(It->Hp->Prop)->Prop
def PIE(X:Cx)(pins:List (Qj×Obj))(σ:St)(tg:Qv)(R:It->Hp->Prop)(itv:Qg)(s2:Qs):Prop:=
 ∃(it:Qj)(fp:List Qj)(tn:Nat->Ql->Prop)(J:It)(H':Hp),itv=.ref it/\Inv X pins σ H' s2/\Turn X.prog X.w X.K tg J fp it tn/\tn 0 s2.heap/\(∀b∈fp,sr X pins H' b)/\R J H'
def PI(X:Cx)(tg iter:Qv)(wi:TI):Prop:=
 ∀(pins:List (Qj×Obj))(s:Qs)(σ:St)(H:Hp)(R:It->Hp->Prop),Inv X pins σ H s->wi σ H R->
  Qu (model X.prog X.w) X.A (eval iter X.env) (λv s1=>Qu (model X.prog X.w) X.A (pyIter v) (PIE X pins σ tg R) X.xe s1) X.xe s
theorem CU{M:Model}{A:Qr}{E:Qg->Qs->Prop}{s:Qs}{tg:Qv}{it:Qj}{u:Qg}{o:Obj}{n:String}{vs:Array Qg}{Q:Unit->Qs->Prop}(ho:s.heap.get? it=some o)(hc:o.cls=.type n)(hd:o.data=.fields vs)
    (hn:["enumerate","zip","dict_itemiterator","dict_reverseitemiterator","odict_iterator","itertools.zip_longest","itertools.pairwise"].contains n=false) (hQ:Q () s):Qu M A (letOwnedTupleGo tg (.ref it) u) Q E s:=by
  unfold letOwnedTupleGo;cases tg<;>first
    |exact QC hQ
    | (cases u <;> first
        |exact QC hQ
        | (refine QD (wpAny_load ho ?_)
           rw[hc,hd];show Qu M A (if(["enumerate","zip","dict_itemiterator","dict_reverseitemiterator","odict_iterator","itertools.zip_longest","itertools.pairwise"].contains n&&vs[0]?==some (rawInt _))=true then _ else _) Q E s;rw[if_neg (by intro h;rw[hn,MB]at h;cases h)];exact QC hQ))
def J4(K:OZ)(a:Qj):It:=
 ⟨λi H=>∃xs x,nG K H a xs/\xs[i]?=some x,λi H x H'=>H'=H/\∀xs,nG K H a xs->xs[i]?=some x,λi H=>∃xs,nG K H a xs/\xs.length<=i⟩
def Kt(K:OZ)(a:Qj):It:=
 ⟨λi H=>∃xs x,oF K H a xs/\xs[i]?=some x,λi H x H'=>H'=H/\∀xs,oF K H a xs->xs[i]?=some x,λi H=>∃xs,oF K H a xs/\xs.length<=i⟩
def Jc(lo:Int)(n:Nat):It:=⟨λi _=>i<n,λi H x H'=>H'=H/\x=.int (lo+i),λi _=>n<=i⟩
theorem Ah{P:Qi}{w:Qh}{K:OZ}{tg:Qv}(a it:Qj):Turn P w K tg (J4 K a) [it] it (λi h=>h.IsListIter it a i)where
 mem:=by simp
 obj:=λi h st b hb=>by
  have e:b=it:=by simpa using hb
  subst e;obtain⟨o,e,c,d⟩:=st;exact⟨o,e,λv z=>by rw[d]at z;cases z⟩
 keep:=λi h h' st k=>st.at λo e=>k it (by simp) o e
 item:=by
  intro X hP hw hK hc i pins s σ H E I hf st hg;subst hP hw hK;obtain⟨xs,x,hq,hx⟩:=hg;obtain⟨its,rv,p,hz⟩:=I.list hq;obtain⟨u,hu,ru⟩:=rv.get hx;obtain⟨f0,f1,f2,f3,f4,f5⟩:=hf it (by simp);refine wpAny_pyNext_list_item st p.isList (x:=u) (by simpa using hu) λh' st' sb=>?_;have I1:Inv X pins σ H {s with heap:=h'}:=I.turned (t':=s.toks) (λb o hb e=>(sb.2 b hb).trans e) f0 f1 f3 f4 f5;obtain⟨o,e,c,d⟩:=id st';exact⟨u,rfl,CU (s:={s with heap:=h'}) e c d (by decide) ⟨x,H,I1,ru,⟨rfl,λys hy=>by rw[I.list_inj hy hq];exact hx⟩,st',λb hb=>(hf b hb).1⟩⟩
 done:=by
  intro X hP hw hK hc i pins s σ H E I hf st hg;subst hP hw hK;obtain⟨xs,hq,hx⟩:=hg;obtain⟨its,rv,p,hz⟩:=I.list hq;obtain⟨f0,f1,f2,f3,f4,f5⟩:=hf it (by simp);have hl:=rv.length;exact wpAny_pyNext_list_end (I.ok.hd hc) st p.isList (by simp;omega) λh' eb=>⟨rfl,I.turned (t':=s.toks) (λb o hb e=>eb b o hb e) f0 f1 f3 f4 f5⟩
 self:=λ_ _ _ _ _ st h=>wpAny_pyIter_listiter st h
theorem yw{P:Qi}{w:Qh}{K:OZ}{tg:Qv}(a it:Qj):Turn P w K tg (Kt K a) [it] it (λi h=>h.IsTupleIter it a i)where
 mem:=by simp
 obj:=λi h st b hb=>by
  have e:b=it:=by simpa using hb
  subst e;obtain⟨o,e,c,d⟩:=st;exact⟨o,e,λv z=>by rw[d]at z;cases z⟩
 keep:=λi h h' st k=>st.at λo e=>k it (by simp) o e
 item:=by
  intro X hP hw hK hc i pins s σ H E I hf st hg;subst hP hw hK;obtain⟨xs,x,hq,hx⟩:=hg;obtain⟨its,rv,p,hz⟩:=I.tuple hq;obtain⟨u,hu,ru⟩:=rv.get hx;obtain⟨f0,f1,f2,f3,f4,f5⟩:=hf it (by simp);refine wpAny_pyNext_tuple_item st (show s.heap.IsTuple a its.toArray from p) (x:=u) (by simpa using hu) λh' st' sb=>?_;have I1:Inv X pins σ H {s with heap:=h'}:=I.turned (t':=s.toks) (λb o hb e=>(sb.2 b hb).trans e) f0 f1 f3 f4 f5;obtain⟨o,e,c,d⟩:=id st';exact⟨u,rfl,CU (s:={s with heap:=h'}) e c d (by decide) ⟨x,H,I1,ru,⟨rfl,λys hy=>by rw[I.tuple_inj hy hq];exact hx⟩,st',λb hb=>(hf b hb).1⟩⟩
 done:=by
  intro X hP hw hK hc i pins s σ H E I hf st hg;subst hP hw hK;obtain⟨xs,hq,hx⟩:=hg;obtain⟨its,rv,p,hz⟩:=I.tuple hq;obtain⟨f0,f1,f2,f3,f4,f5⟩:=hf it (by simp);have hl:=rv.length;exact wpAny_pyNext_tuple_end (I.ok.hd hc) st (show s.heap.IsTuple a its.toArray from p) (by simp;omega) λh' eb=>⟨rfl,I.turned (t':=s.toks) (λb o hb e=>eb b o hb e) f0 f1 f3 f4 f5⟩
 self:=λ_ _ _ _ _ st h=>wpAny_pyIter_tupleiter st h
theorem yf{P:Qi}{w:Qh}{K:OZ}{tg:Qv}(it:Qj)(lo:Int)(n:Nat):Turn P w K tg (Jc lo n) [it] it (λi h=>IsRangeIter h it (lo+(i:Nat)*1) ((n:Int)-(i:Nat)) 1)where
 mem:=by simp
 obj:=λi h st b hb=>by
  have e:b=it:=by simpa using hb
  subst e;exact⟨_,st,λv z=>by
   have z':Data.fields _=Data.cell v:=z;cases z'⟩
 keep:=λi h h' st k=>k it (by simp) _ st
 item:=by
  intro X hP hw hK hc i pins s σ H E I hf st hg;subst hP hw hK;obtain⟨f0,f1,f2,f3,f4,f5⟩:=hf it (by simp);have W:=Walks.range (prog:=X.prog) (w:=X.w) (I.ok.hd hc) it lo 1 n;refine W.item i s _ _ hg st λv h' tk hv st' kk=>?_;obtain⟨t,rfl⟩:=hv;have I1:Inv X pins σ H {s with heap:=h',toks:=tk}:=I.turned (λb o hb e=>kk b o (by simpa using hb) e) f0 f1 f3 f4 f5;refine⟨_,rfl,CU (s:={s with heap:=h',toks:=tk}) (n:="range_iterator") st' rfl rfl (by decide) ⟨.int (lo+i),H,I1,⟨t,?_⟩,⟨rfl,rfl⟩,st',λb hb=>(hf b hb).1⟩⟩;rw[Int.mul_one]
 done:=by
  intro X hP hw hK hc i pins s σ H E I hf st hg;subst hP hw hK;obtain⟨f0,f1,f2,f3,f4,f5⟩:=hf it (by simp);exact wpAny_pyNext_range_end (I.ok.hd hc) st (by have:n<=i:=hg;omega) λh' eb=>⟨rfl,I.turned (t':=s.toks) (λb o hb e=>eb b o hb e) f0 f1 f3 f4 f5⟩
 self:=λ_ _ _ _ _ st h=>wpAny_pyIter_rangeiter st h
section
variable{X:Cx}{tg:Qv}
def Hz(K:OZ)(tl:TE):TI:=λσ H R=>tl σ H λx H1=>∃a,x=.ref a/\(∃xs,nG K H1 a xs)/\R (J4 K a) H1
def J1(K:OZ)(tl:TE):TI:=λσ H R=>tl σ H λx H1=>∃a,x=.ref a/\(∃xs,oF K H1 a xs)/\R (Kt K a) H1
theorem zi{l:Qv}{tl:TE}(hl:PE X l tl):PI X tg l (Hz X.K tl):=by
 intro pins s σ H R I h;refine eJ (hl pins s σ H _ I h) λv s1 ⟨x,H1,I1,r1,q1⟩=>?_;obtain⟨a,e,⟨xs,hq⟩,q⟩:=q1;subst e;cases r1;obtain⟨its,rv,p,hz⟩:=I1.list hq;refine QE p.isList ?_;refine⟨s1.heap.objs.size,[s1.heap.objs.size],_,_,H1,rfl,I1.kept (t':=s1.toks) λb o e=>PJ _ e,Ah a _,⟨_,PK _ rfl,rfl,rfl⟩,λb hb=>?_,q⟩;have e:b=s1.heap.objs.size:=by simpa using hb
 subst e;exact I1.fpOk (MC _) (I1.hok.fresh (MC _))
theorem GO{l:Qv}{tl:TE}(hl:PE X l tl):PI X tg l (J1 X.K tl):=by
 intro pins s σ H R I h;refine eJ (hl pins s σ H _ I h) λv s1 ⟨x,H1,I1,r1,q1⟩=>?_;obtain⟨a,e,⟨xs,hq⟩,q⟩:=q1;subst e;cases r1;obtain⟨its,rv,p,hz⟩:=I1.tuple hq;refine wpAny_pyIter_tuple (show s1.heap.IsTuple a its.toArray from p) ?_;refine⟨s1.heap.objs.size,[s1.heap.objs.size],_,_,H1,rfl,I1.kept (t':=s1.toks) λb o e=>PJ _ e,yw a _,⟨_,PK _ rfl,rfl,rfl⟩,λb hb=>?_,q⟩;have e:b=s1.heap.objs.size:=by simpa using hb
 subst e;exact I1.fpOk (MC _) (I1.hok.fresh (MC _))
theorem wv{pins:List (Qj×Obj)}{σ:St}{H:Hp}{s:Qs}{R:It->Hp->Prop}{E:Qg->Qs->Prop}{lo hi:Int}{t u v:Tok}{tk:Nat}(I:Inv X pins σ H s)(h1:-(2^62)<=lo)(h2:lo<2^62)(h3:-(2^62)<=hi)(h4:hi<2^62)
  (q:R (Jc lo (hi-lo).toNat) H):Qu (model X.prog X.w) X.A (pyIter (.ref s.heap.objs.size)) (PIE X pins σ tg R) E {s with heap:=s.heap.push {cls:=.type "range",data:=.fields #[.int lo t,.int hi u,.int 1 v]},toks:=tk}:=by
 refine wpAny_pyIter_range (IsRange.new ..) (small_one h1 h2 h3 h4) ?_;have I1:Inv X pins σ H {s with heap:=s.heap.push {cls:=.type "range",data:=.fields #[.int lo t,.int hi u,.int 1 v]},toks:=tk}:=I.kept λb o e=>PJ _ e;refine⟨(s.heap.push {cls:=.type "range",data:=.fields #[.int lo t,.int hi u,.int 1 v]}).objs.size,[(s.heap.push {cls:=.type "range",data:=.fields #[.int lo t,.int hi u,.int 1 v]}).objs.size],_,_,H,rfl,
  I1.kept (t':=tk) λb o e=>PJ _ e,yf _ lo (hi-lo).toNat,?_,λb hb=>?_,q⟩
 ·have e1:lo+((0:Nat):Int)*1=lo:=by simp
  have e2:(((hi-lo).toNat:Nat):Int)-((0:Nat):Int)=Builtin.Range.rangeSize lo hi 1:=by rw[rangeSize_one];split<;>omega
  show IsRangeIter _ _ (lo+((0:Nat):Int)*1) ((((hi-lo).toNat:Nat):Int)-((0:Nat):Int)) 1;rw[e1,e2];exact PK _ rfl
 ·have e:b=(s.heap.push {cls:=.type "range",data:=.fields #[.int lo t,.int hi u,.int 1 v]}).objs.size:=by simpa using hb
  subst e;exact I1.fpOk (MC _) (I1.hok.fresh (MC _))
def HB(ta:TA):TI:=λσ H R=>ta σ H λvs H1=>∃j:Int,vs=[.int j]/\-(2^62)<=j/\j<2^62/\R (Jc 0 j.toNat) H1
def HF(ta:TA):TI:=λσ H R=>ta σ H λvs H1=>∃i j:Int,vs=[.int i,.int j]/\(-(2^62)<=i/\i<2^62/\-(2^62)<=j/\j<2^62)/\R (Jc i (j-i).toNat) H1
theorem AJ{a:Qv}{ta:TA}{p pos:Pos}(hg:Gl X "range")(hm:X.mg "range"=none)(ha:PA X [a] ta)(hs:Qw [a] X.env=[(false,eval a X.env)]:=by rfl):PI X tg (.Call (.Name "range" p) [a] [] pos) (HB ta):=by
 intro pins s σ H R I h;refine Call_ (lx I hg hm boot_range (PV (eJ (ha pos pins s σ H _ I h) λus s1 ⟨vs,H1,I1,r1,q1⟩=>?_) hs rfl));obtain⟨j,e,q1,q2,q⟩:=q1;subst e;cases r1 with
 |cons r rr=>
  cases rr;obtain⟨t,rfl⟩:=r;exact call_range_1 (wv I1 ‹0› ‹0› q1 q2 (by simpa using q))
theorem zT{a b:Qv}{ta:TA}{p pos:Pos}(hg:Gl X "range")(hm:X.mg "range"=none)(ha:PA X [a,b] ta)(hs:Qw [a,b] X.env=[(false,eval a X.env),(false,eval b X.env)]:=by rfl)(hs2:Qw [b] X.env=[(false,eval b X.env)]:=by rfl):
  PI X tg (.Call (.Name "range" p) [a,b] [] pos) (HF ta):=by
 intro pins s σ H R I h;refine Call_ (lx I hg hm boot_range (PV (eJ (ha pos pins s σ H _ I h) λus s1 ⟨vs,H1,I1,r1,q1⟩=>?_) (by rw[hs,hs2]) (by rw[hs2];rfl)));obtain⟨i,j,e,⟨q1,q2,q3,q4⟩,q⟩:=q1;subst e;cases r1 with
 |cons r rr=>
  cases rr with
  |cons r' rr=>
   cases rr;obtain⟨t,rfl⟩:=r;obtain⟨t',rfl⟩:=r';exact call_range_2 (wv I1 q1 q2 q3 q4 q)
def Ki(wi:TI)(g:TG)(tb:TS):TS:=λD σ H=>wi σ H λJ H1=>∃W:Nat->Nat->St->Hp->Prop,(∃m,W 0 m σ H1)/\∀i m σ H,W i m σ H->
 (J.stop i H/\D.nx σ H)\/(J.go i H/\∃N:St->Hp->Prop,(∀σ' H',N σ' H'->∃m',m'<m/\W (i+1) m' σ' H')/\∀x H',J.yld i H x H'->g x σ H' λσ2 H2=>tb {D with nx:=N,ct:=N,bk:=D.nx} σ2 H2)
def rL(fp:List Qj)(h:Ql):List (Qj×Obj):=fp.filterMap λb=>(h.get? b).map λo=>(b,o)
theorem j5{fp:List Qj}{h:Ql}{b:Qj}{o:Obj}(hb:b∈fp)(e:h.get? b=some o):(b,o)∈rL fp h:=List.mem_filterMap.mpr ⟨b,hb,by rw[e];rfl⟩
theorem A4{fp:List Qj}{h:Ql}{p:Qj×Obj}(hp:p∈rL fp h):p.1∈fp/\h.get? p.1=some p.2:=by
 obtain⟨b,hb,e⟩:=List.mem_filterMap.mp hp;cases q:h.get? b with
 |none=>rw[q]at e;cases e
 |some o=>
  rw[q]at e;have e':(b,o)=p:=Option.some.inj e;subst e';exact⟨hb,q⟩
theorem Inv.pinned{pins:List (Qj×Obj)}{σ:St}{H:Hp}{s:Qs}{fp:List Qj}(I:Inv X pins σ H s)(hf:∀b∈fp,sr X pins H b)(ho:∀b∈fp,∃o,s.heap.get? b=some o/\∀v,o.data≠.cell v):Inv X (pins++rL fp s.heap) σ H s:=
 I.pins_of λp hp=>(List.mem_append.mp hp).elim (λz=>I.pin p (MD _ z)) λz=>by
  obtain⟨hb,e⟩:=A4 z;obtain⟨f0,f1,f2,_⟩:=hf p.1 hb;obtain⟨o,e',d⟩:=ho p.1 hb;rw[e]at e';cases e';exact⟨e,f0,f1,f2,d⟩
theorem Inv.unpinned{pins pl:List (Qj×Obj)}{σ:St}{H:Hp}{s:Qs}(I:Inv X (pins++pl) σ H s):Inv X pins σ H s:=I.pins_of λp hp=>I.pin p (MD _ (Mx _ hp))
theorem G9{iter:Qv}{body:List Qx}{wi:TI}{g:TG}{tb:TS}{pos:Pos}(hp:QF (model X.prog X.w) X.A X.env X.xe)(hc:X.calm=true)(hi:PI X tg iter wi)(hg:PG X tg g)(hb:AD X body tb)
  (hs:∀x,QG iter X.env x=pure x:=by intro _;rfl):PS X (.For tg iter body [] pos) (Ki wi g tb):=by
 intro pins s σ H D I h;refine wpAny_For (eJ (hi pins s σ H _ I h) λv s1 h1=>eJ h1 λitv s2 h2=>?_) hs;obtain⟨it,fp,tn,J,H2,e,I2,T,st2,f2,W,⟨m0,w0⟩,turn⟩:=h2;subst e;have stat:∀{H':Hp},(∀b∈fp,H' b=none)->∀b∈fp,sr X pins H' b:=λhn b hb=>⟨hn b hb,(f2 b hb).2⟩
 refine codeAny_forLoop_any (λn s'=>∃i σ' H',Inv X pins σ' H' s'/\tn i s'.heap/\(∀b∈fp,H' b=none)/\W i n σ' H') ?_ m0 ⟨0,σ,H2,I2,st2,λb hb=>(f2 b hb).1,w0⟩;rintro n s3 ⟨i,σ3,H3,I3,st3,fr3,w3⟩;rcases turn i n σ3 H3 w3 with⟨stop,qn⟩|⟨go,N,hN,step⟩
 ·refine QH hp (eJ (T.done X rfl rfl rfl hc i pins s3 σ3 H3 X.xe I3 (stat fr3) st3 stop) λr s4 ⟨hr,I4⟩=>?_);subst hr;exact QB ⟨σ3,H3,I4,qn⟩
 ·refine QH hp (eJ (T.item X rfl rfl rfl hc i pins s3 σ3 H3 X.xe I3 (stat fr3) st3 go) λr s4 ⟨u,hr,h4⟩=>?_);subst hr;refine QH hp (eJ h4 λ_ s5 ⟨x,H5,I5,r5,y5,st5,fr5⟩=>?_);have I5':=I5.pinned (stat fr5) (T.obj _ _ st5);refine QH hp (eJ (hg _ s5 σ3 H5 x u _ I5' r5 (step x H5 y5)) λ_ s6 ⟨σ6,H6,I6,q6⟩=>?_);refine QH hp (eJ (hb _ s6 σ6 H6 _ I6 q6) λf s7 q7=>?_);have again:∀{σ7:St}{H7:Hp},Inv X (pins++rL fp s5.heap) σ7 H7 s7->N σ7 H7->∃m,m<n/\∃i σ' H',Inv X pins σ' H' s7/\tn i s7.heap/\(∀b∈fp,H' b=none)/\W i m σ' H':=λ{σ7 H7} I7 n7=>by
   obtain⟨m',hm,w7⟩:=hN σ7 H7 n7;refine⟨m',hm,i+1,σ7,H7,I7.unpinned,T.keep _ _ _ st5 λb hb o e=>(I7.pin (b,o) (MD _ (MD _ (j5 hb e)))).1,λb hb=>?_,w7⟩;obtain⟨o,e,d⟩:=T.obj _ _ st5 b hb;exact(I7.pin (b,o) (MD _ (MD _ (j5 hb e)))).2.1
  cases f with
  |next=>obtain⟨σ7,H7,I7,n7⟩:=q7;exact again I7 n7
  |cont=>obtain⟨σ7,H7,I7,n7⟩:=q7;exact again I7 n7
  |brk=>obtain⟨σ7,H7,I7,q7⟩:=q7;exact⟨σ7,H7,I7.unpinned,q7⟩
  |ret v=>obtain⟨x7,σ7,H7,I7,r7,q7⟩:=q7;exact⟨x7,σ7,H7,I7.unpinned,r7,q7⟩
end
abbrev R2:=V->V->Hp->VK->Prop
def kQ(X:Cx)(f:Qg->Qg->Sem Qg)(r:R2):Prop:=
 ∀(pins:List (Qj×Obj))(s:Qs)(σ:St)(H:Hp)(x y:V)(v u:Qg)(Q:VK),Inv X pins σ H s->RelV x v->RelV y u->r x y H Q->
  Qu (model X.prog X.w) X.A (f v u) (EP X pins σ Q) X.xe s
def KQ(X:Cx)(f:Qg->Sem Qg)(r:V->Hp->VK->Prop):Prop:=
 ∀(pins:List (Qj×Obj))(s:Qs)(σ:St)(H:Hp)(x:V)(v:Qg)(Q:VK),Inv X pins σ H s->RelV x v->r x H Q->
  Qu (model X.prog X.w) X.A (f v) (EP X pins σ Q) X.xe s
def dN(X:Cx)(f:Qg)(r:List V->Hp->VK->Prop):Prop:=
 ∀(pins:List (Qj×Obj))(s:Qs)(σ:St)(H:Hp)(xs:List V)(us:List Qg)(Q:VK),Inv X pins σ H s->Vals xs us->r xs H Q->
  Qu (model X.prog X.w) X.A (call f us) (EP X pins σ Q) X.xe s
def KR(X:Cx)(r:V->Hp->(Bool->Hp->Prop)->Prop):Prop:=
 ∀(pins:List (Qj×Obj))(s:Qs)(σ:St)(H:Hp)(x:V)(v:Qg)(Q:Bool->Hp->Prop),Inv X pins σ H s->RelV x v->r x H Q->
  Qu (model X.prog X.w) X.A (truthy v) (TP X pins σ Q) X.xe s
def Jf(r:R2)(ta tb:TE):TE:=λσ H Q=>ta σ H λx H1=>tb σ H1 λy H2=>r x y H2 Q
def LV(r:V->Hp->VK->Prop)(ta:TE):TE:=λσ H Q=>ta σ H λx H1=>r x H1 Q
def rI(C:Int->Int->Prop)(g:Int->Int->V):R2:=λx y H Q=>∃i j,x=.int i/\y=.int j/\C i j/\Q (g i j) H
def CN(g:Int->Int->V):R2:=λx y H Q=>∃i j,x=.int i/\y=.int j/\Q (g i j) H
def rU(g:Int->V):V->Hp->VK->Prop:=λx H Q=>∃i,x=.int i/\Q (g i) H
section
variable{X:Cx}{a b c:Qv}{ta tb tc:TE}{pos:Pos}
theorem FY(ha:PE X a ta)(hb:PE X b tb){pins:List (Qj×Obj)}{s:Qs}{σ:St}{H:Hp}{R:V->V->Hp->Prop}(I:Inv X pins σ H s)
  (h:ta σ H λx H1=>tb σ H1 λy H2=>R x y H2) {Q:Qg->Qs->Prop} {f:Qg->Qg->Sem Qg}
  (hf:∀v u s2 x y H2,Inv X pins σ H2 s2->RelV x v->RelV y u->R x y H2->Qu (model X.prog X.w) X.A (f v u) Q X.xe s2):
  Qu (model X.prog X.w) X.A (eval a X.env) (λv s₁=>Qu (model X.prog X.w) X.A (eval b X.env) (λu s₂=>Qu (model X.prog X.w) X.A (f v u) Q X.xe s₂) X.xe s₁) X.xe s:=by
 refine eJ (ha pins s σ H _ I h) λv s1 ⟨x,H1,I1,r1,q1⟩=>?_;refine eJ (hb pins s1 σ H1 _ I1 q1) λu s2 ⟨y,H2,I2,r2,q2⟩=>?_;exact hf v u s2 x y H2 I2 r1 r2 q2
theorem Hy{op:Operator}{r:R2}(ho:kQ X (QI op) r)(ha:PE X a ta)(hb:PE X b tb):PE X (.BinOp a op b pos) (Jf r ta tb):=by
 intro pins s σ H Q I h;exact wpAny_BinOp (FY ha hb I h λv u s2 x y H2 I2 rx ry q=>ho pins s2 σ H2 x y v u Q I2 rx ry q)
theorem HX{op:UnaryOp}{r:V->Hp->VK->Prop}(ho:KQ X (unaryOp op) r)(ha:PE X a ta):PE X (.UnaryOp op a pos) (LV r ta):=by
 intro pins s σ H Q I h;exact UnaryOp_ (eJ (ha pins s σ H _ I h) λv s1 ⟨x,H1,I1,r1,q1⟩=>ho pins s1 σ H1 x v Q I1 r1 q1)
theorem HR{f:Qg->Qg->Sem Qg}{C:Int->Int->Prop}{g:Int->Int->Int}
  (rule:∀(i j:Int)(t u:Tok)(s:Qs)(Q:Qg->Qs->Prop)(E:Qg->Qs->Prop),C i j->Q (.int (g i j) s.toks) {s with toks:=s.toks+1}->Qu (model X.prog X.w) X.A (f (.int i t) (.int j u)) Q E s):
  kQ X f (rI C λi j=>.int (g i j)):=by
 intro pins s σ H x y v u Q I rx ry h;obtain⟨i,j,rfl,rfl,hc,q⟩:=h;obtain⟨t,rfl⟩:=rx;obtain⟨t',rfl⟩:=ry;exact rule i j t t' s _ _ hc ⟨.int (g i j),H,I.tok _,⟨_,rfl⟩,q⟩
theorem GX{f:Qg->Qg->Sem Qg}{g:Int->Int->Int}
  (rule:∀(i j:Int)(t u:Tok)(s:Qs)(Q:Qg->Qs->Prop)(E:Qg->Qs->Prop),Q (.int (g i j) s.toks) {s with toks:=s.toks+1}->Qu (model X.prog X.w) X.A (f (.int i t) (.int j u)) Q E s):
  kQ X f (CN λi j=>.int (g i j)):=by
 intro pins s σ H x y v u Q I rx ry h;obtain⟨i,j,rfl,rfl,q⟩:=h;obtain⟨t,rfl⟩:=rx;obtain⟨t',rfl⟩:=ry;exact rule i j t t' s _ _ ⟨.int (g i j),H,I.tok _,⟨_,rfl⟩,q⟩
theorem II{f:Qg->Qg->Sem Qg}{g:Int->Int->Bool}
  (rule:∀(i j:Int)(t u:Tok)(s:Qs)(Q:Qg->Qs->Prop)(E:Qg->Qs->Prop),Q (.bool (g i j)) s->Qu (model X.prog X.w) X.A (f (.int i t) (.int j u)) Q E s):
  kQ X f (CN λi j=>.bl (g i j)):=by
 intro pins s σ H x y v u Q I rx ry h;obtain⟨i,j,rfl,rfl,q⟩:=h;obtain⟨t,rfl⟩:=rx;obtain⟨t',rfl⟩:=ry;exact rule i j t t' s _ _ ⟨.bl (g i j),H,I,rfl,q⟩
def IP(i j:Int):Prop:=0<=j/\j<=1000000/\i.natAbs<2^64
def G3(i j:Int):Prop:=(-(2^64)<i/\i<2^64)\/(-(2^64)<j/\j<2^64)
theorem G3.ok{i j:Int}(h:G3 i j):IntMulOk i j:=by
 rcases h with⟨h1,h2⟩|⟨h1,h2⟩
 ·exact .of_left (intBits_le_64 h1 h2)
 ·exact .of_right (intBits_le_64 h1 h2)
theorem xW(k:Nat):(0:Int)<=2^k:=by
 rw[two_pow_cast];exact Int.natCast_nonneg _
theorem GK:kQ X (QI .Add) (CN λi j=>.int (i+j)):=GX λ_ _ _ _ _ _ _ q=>add_int q
theorem qU:kQ X (QI .Sub) (CN λi j=>.int (i-j)):=GX λ_ _ _ _ _ _ _ q=>sub_int q
theorem kr:kQ X (QI .Mult) (rI G3 λi j=>.int (i*j)):=HR λ_ _ _ _ _ _ _ hc q=>mul_int q hc.ok
theorem bj:kQ X (QI .Mod) (rI (λ_ j=>0<j) λi j=>.int (i%j)):=HR λi j _ _ _ _ _ hc q=>by
 have h1:(0:Int)<j:=hc;exact mod_int' ‹0› (by rw[Int.fmod_eq_emod_of_nonneg i ‹0›];exact q)
theorem gg:kQ X (QI .Pow) (rI IP λi j=>.int (i^j.toNat)):=HR λ_ _ _ _ _ _ _ hc q=>pow_int_small hc.1 hc.2.1 hc.2.2 q
theorem yd:kQ X (QI .RShift) (rI (λ_ j=>0<=j) λi j=>.int (i/2^j.toNat)):=HR λi j _ _ _ _ _ hc q=>
 rshift_int hc (by rw[ME i (xW _)];exact q)
theorem xH:kQ X (QI .BitAnd) (CN λi j=>.int (Builtin.bitAnd i j)):=GX λ_ _ _ _ _ _ _ q=>and_int q
theorem L6{f:Qg->Sem Qg}{g:Int->Int}
  (rule:∀(i:Int)(t:Tok)(s:Qs)(Q:Qg->Qs->Prop)(E:Qg->Qs->Prop),Q (.int (g i) s.toks) {s with toks:=s.toks+1}->Qu (model X.prog X.w) X.A (f (.int i t)) Q E s):
  KQ X f (rU λi=>.int (g i)):=by
 intro pins s σ H x v Q I rx h;obtain⟨i,rfl,q⟩:=h;obtain⟨t,rfl⟩:=rx;exact rule i t s _ _ ⟨.int (g i),H,I.tok _,⟨_,rfl⟩,q⟩
theorem FC:KQ X (unaryOp .USub) (rU λi=>.int (-i)):=L6 λ_ _ _ _ _ q=>neg_int q
end
section
variable{X:Cx}{a b c:Qv}{ta tb tc:TE}{pos:Pos}
theorem BR{pins:List (Qj×Obj)}{σ:St}{H:Hp}{s:Qs}{Q:VK}{k k':Bool}(I:Inv X pins σ H s)(q:Q (.bl k) H)(e:k=k'):EP X pins σ Q (.bool k') s:=by
 subst e;exact⟨.bl k,H,I,rfl,q⟩
theorem Jd:kQ X (QJ .Lt) (CN λi j=>.bl (decide (i<j))):=II λ_ _ _ _ _ _ _ q=>lt_int q
theorem IR:kQ X (QJ .Gt) (CN λi j=>.bl (decide (j<i))):=II λ_ _ _ _ _ _ _ q=>gt_int q
theorem AY:kQ X (QJ .Lt) (λx y H Q=>∃i j,x=.str i/\y=.str j/\Q (.bl (decide (i.cps.toList<j.cps.toList))) H):=by
 intro pins s σ H x y v u Q I rx ry h;obtain⟨i,j,rfl,rfl,q⟩:=h;obtain⟨t,rfl⟩:=rx;obtain⟨t',rfl⟩:=ry;exact lt_str (BR I q rfl)
theorem cf(b:Qv){op:CmpOp}(h:op≠.In:=by decide)(h2:op≠.NotIn:=by decide):QK op b=false:=by
 have e1:(op==CmpOp.In)=false:=by cases op<;>first|rfl|exact absurd rfl h
 have e2:(op==CmpOp.NotIn)=false:=by cases op<;>first|rfl|exact absurd rfl h2
 cases b<;>simp[QK,e1,e2]
theorem Dx{op:CmpOp}{r:R2}(ho:kQ X (QJ op) r)(ha:PE X a ta)(hb:PE X b tb)(hm:QK op b=false):PE X (.Compare a [op] [b] pos) (Jf r ta tb):=by
 intro pins s σ H Q I h;exact wpAny_Compare1 (FY ha hb I h λv u s2 x y H2 I2 rx ry q=>ho pins s2 σ H2 x y v u Q I2 rx ry q) hm
def EK(t:TE):TT:=λσ H Q=>t σ H λx H'=>∃k,x=.bl k/\Q k H'
theorem Dw{op:CmpOp}{r:R2}(ho:kQ X (QJ op) r)(ha:PE X a ta)(hb:PE X b tb)(hm:QK op b=false):PT X (.Compare a [op] [b] pos) (EK (Jf r ta tb)):=by
 intro pins s σ H Q I h;refine wpAny_isTrue_Compare1 (eJ (ha pins s σ H _ I h) λv s1 ⟨x,H1,I1,r1,q1⟩=>eJ (hb pins s1 σ H1 _ I1 q1) λu s2 ⟨y,H2,I2,r2,q2⟩=>
  eJ (ho pins s2 σ H2 x y v u _ I2 r1 r2 q2) λc s3 ⟨z,H3,I3,r3,k,e,q3⟩=>?_) hm
 subst e;cases r3;exact QA ⟨H3,I3,q3⟩
def Ic(K:OZ)(x:V)(H:Hp)(k:Bool):Prop:=
 match x with
 |.non=>k=false
 |.bl b=>k=b
 |.int i=>k=(i !=0)
 |.str y=>y.length<=Qm/\k=((y.length:Int) !=0)
 |.byt y=>y.size<=Qm/\k=((y.size:Int) !=0)
 |.ref p=>(∃xs,nG K H p xs/\k=!xs.isEmpty)\/(∃xs,oF K H p xs/\k=!xs.isEmpty)\/∃kvs,H p=some (.dK kvs)/\k=!kvs.isEmpty
 |_=>False
theorem ye{κ:Type}{kvs:List (κ×V)}{vs:List (κ×Qg)}(r:KV kvs vs):(!vs.isEmpty)=!kvs.isEmpty:=by
 cases r<;>rfl
theorem rq{xs:List V}{its:List Qg}(r:Vals xs its):(!its.toArray.isEmpty)=!xs.isEmpty:=by
 cases r<;>simp
theorem ph:(Qm:Nat)<2^63:=by rw[QL];decide
theorem Gg:KR X (λx H Q=>∃k,Ic X.K x H k/\Q k H):=by
 intro pins s σ H x v Q I rx h;obtain⟨k,e,q⟩:=h;have hl:=ph;have hs:Qm=16777216:=QL;cases x with
 |non=>
  cases rx;have e':k=false:=e;subst e';exact truthy_none ⟨H,I,q⟩
 |bl b=>
  cases rx;have e':k=b:=e;subst e';exact QA ⟨H,I,q⟩
 |int i=>
  obtain⟨t,rfl⟩:=rx;have e':k=(i !=0):=e;subst e';exact PySem.P.truthy_int ⟨H,I,q⟩
 |str y=>
  obtain⟨t,rfl⟩:=rx;obtain⟨hy,e'⟩:y.length<=Qm/\k=((y.length:Int) !=0):=e;subst e';exact PySem.P.truthy_str ‹0› ⟨H,I.tok _,q⟩
 |byt y=>
  obtain⟨t,rfl⟩:=rx;obtain⟨hy,e'⟩:y.size<=Qm/\k=((y.size:Int) !=0):=e;subst e';exact PySem.W.truthy_bytes ‹0› ⟨H,I.tok _,q⟩
 |ref p=>
  cases rx;have e':(∃xs,nG X.K H p xs/\k=!xs.isEmpty)\/(∃xs,oF X.K H p xs/\k=!xs.isEmpty)\/∃kvs,H p=some (.dK kvs)/\k=!kvs.isEmpty:=e;rcases e' with⟨xs,hx,e'⟩|⟨xs,hx,e'⟩|⟨kvs,hx,e'⟩
  ·subst e';obtain⟨its,r,pl,hz⟩:=I.list hx;have hlen:=r.length;exact wpAny_truthy_list pl.isList (by simp only[MF];omega) ⟨H,I.tok _,by rw[rq r];exact q⟩
  ·subst e';obtain⟨its,r,pl,hz⟩:=I.tuple hx;have hlen:=r.length;exact truthy_tuple pl (by simp only[MF];omega) ⟨H,I.tok _,by rw[rq r];exact q⟩
  ·subst e';obtain⟨hz,hS,vs,r,m⟩:kvs.length<=Qm/\(p==sysModules)=false/\∃vs,KV kvs vs/\s.heap.DictOf (cM X.prog X.w) p vs:=I.hok p _ hx;have hlen:kvs.length=vs.length:=Paired.length r;exact wpAny_truthy_dict hS m ‹0› ⟨H,I.tok _,by rw[ye r];exact q⟩
 |_=>exact(show False from e).elim
theorem CO(ha:PE X a ta)(he:∀whole,isTrue a X.env whole=(do let v<-whole;standAt a.pos;holding [v] (truthy v))):
  PT X a (λσ H Q=>ta σ H λx H'=>∃k,Ic X.K x H' k/\Q k H'):=by
 intro pins s σ H Q I h;exact isTrue_plain (eJ (ha pins s σ H _ I h) λv s1 ⟨x,H1,I1,r1,q1⟩=>Gg pins s1 σ H1 x v Q I1 r1 q1) (he _)
theorem yD:kQ X (QI .Add) (λx y H Q=>∃i j,x=.str i/\y=.str j/\i.length+j.length<=Qm/\Q (.str (i++j)) H):=by
 intro pins s σ H x y v u Q I rx ry h;obtain⟨i,j,rfl,rfl,hz,q⟩:=h;obtain⟨t,rfl⟩:=rx;obtain⟨t',rfl⟩:=ry;exact add_str (λt' tk=>⟨.str (i++j),H,I.tok _,⟨_,rfl⟩,q⟩) hz
theorem vals1{x:V}{us:List Qg}(r:Vals [x] us):∃u,us=[u]/\RelV x u:=by
 cases r with
 |cons r1 r2=>cases r2;exact⟨_,rfl,r1⟩
theorem vals2{x y:V}{us:List Qg}(r:Vals [x,y] us):∃u w',us=[u,w']/\RelV x u/\RelV y w':=by
 cases r with
 |cons r1 r2=>
  cases r2 with
  |cons r3 r4=>cases r4;exact⟨_,_,rfl,r1,r3⟩
theorem A0(hc:X.calm=true):dN X (.builtin "max") (λxs H Q=>∃i j,xs=[.int i,.int j]/\Q (.int (if j>i then j else i)) H):=by
 intro pins s σ H xs us Q I r h;obtain⟨i,j,rfl,q⟩:=h;obtain⟨u,w',rfl,⟨t,rfl⟩,⟨t',rfl⟩⟩:=vals2 r;refine max_two_ints (I.ok.hd hc) λh' tk k=>⟨_,H,I.kept k,?_,q⟩
 by_cases hj:j>i
 ·rw[if_pos hj,if_pos hj];exact⟨_,rfl⟩
 ·rw[if_neg hj,if_neg hj];exact⟨_,rfl⟩
theorem zN(hc:X.calm=true):dN X (.builtin "min") (λxs H Q=>∃i j,xs=[.int i,.int j]/\Q (.int (if j<i then j else i)) H):=by
 intro pins s σ H xs us Q I r h;obtain⟨i,j,rfl,q⟩:=h;obtain⟨u,w',rfl,⟨t,rfl⟩,⟨t',rfl⟩⟩:=vals2 r;refine min_two_ints (I.ok.hd hc) λh' tk k=>⟨_,H,I.kept k,?_,q⟩
 by_cases hj:j<i
 ·rw[if_pos hj,if_pos hj];exact⟨_,rfl⟩
 ·rw[if_neg hj,if_neg hj];exact⟨_,rfl⟩
theorem tM:dN X (.type "int") (λxs H Q=>(∃i,xs=[.int i]/\Q (.int i) H)\/∃k,xs=[.bl k]/\Q (.int (if k then 1 else 0)) H):=by
 intro pins s σ H xs us Q I r h;rcases h with⟨i,rfl,q⟩|⟨k,rfl,q⟩
 ·obtain⟨u,rfl,t,rfl⟩:=vals1 r;exact call_int_int ⟨.int i,H,I,⟨_,rfl⟩,q⟩
 ·obtain⟨u,rfl,r1⟩:=vals1 r;cases r1;exact call_int_bool ⟨.int (if k then 1 else 0),H,I.tok _,⟨_,rfl⟩,q⟩
end
structure GQ(h:Ql)(x dx C:Qj)(mA:Str->Option Qg):Prop where
 obj:h.get? x=some (OX C dx)
 ns:h.Ns1 dx mA
 ne:dx≠x
theorem zM{h:Ql}{dx:Qj}{mA:Str->Option Qg}(n:h.Ns1 dx mA):∃od,h.get? dx=some od/\∀name,O0 name od=some (mA name):=by
 obtain⟨o,es,ep,ho,hd,hk,_,hm⟩:=n;refine⟨o,ho,λname=>?_⟩;have e:=hm name;unfold nsFind findBy at e;rw[<-Array.find?_toList]at e;unfold O0;rw[hd];dsimp only;split
 ·rename_i y q;rw[q]at e;exact congrArg some e
 ·rename_i q;rw[q]at e;have a:es.toList.any (·.refKey)=false:=by
   rw[List.any_eq_false];intro y hy;obtain⟨z,t,hkey⟩:=hk y (Array.mem_toList_iff.mp hy);simp[DictEntry.refKey,hkey]
  have a':¬es.toList.any (·.refKey)=true:=by rw[a];exact MG
  rw[if_neg a'];exact congrArg some e
theorem GQ.look{h:Ql}{x dx C:Qj}{mA:Str->Option Qg}(I:GQ h x dx C mA):∃od,PySem.W.InstAt h x (OX C dx) C (some od)/\∀name,O0 name od=some (mA name):=
 let ⟨od,ho,hl⟩:=zM I.ns
 ⟨od,⟨I.obj,rfl,rfl,ho⟩,hl⟩
section
variable{prog:Qi}{w:Qh}{A:Qr}{E:Qg->Qs->Prop}{s:Qs}{K:OZ}{x dx C f:Qj}{mA:Str->Option Qg}{name:Str}{v:Qg}
theorem Dc{pl:Sem Bool}{Q:Qg×List Qg->Qs->Prop}(X:K.In s.heap)(I:GQ s.heap x dx C mA)(hg:O1 K C name=true)
  (hf:O2 K (.ref C) name=some (some (.ref f))) (ht:O3 K (.ref f)=true) (hv:mA name=none) (h:Q (.ref f,[.ref x]) s):
  Qu (model prog w) A (getMethod (.ref x) name pl) Q E s:=by
 obtain⟨od,J,hl⟩:=I.look;exact PySem.W.method_fn X J (O5 hg).1 (O5 hg).2 hf (beq_iff_eq.mp ht) (by show(O0 name od).map (·.isSome)=some false;rw[hl,hv];rfl) h
theorem AW{R:Result->Qs->Prop}(X:K.In s.heap)(hm:O6 K C=true)
  (hi:O2 K (.ref C) "__init__"=some (some (.builtin "object.__init__")))
  (hb:∀self,O7 (model prog w) s.heap (bindSpecial (.builtin "object.__init__") self) (.builtin "object.__init__",[self]))
  (h:QM (model prog w) (A.under (.builtin "type.__call__" ⟨[.ref C],[]⟩)) (.call (.builtin "object.__init__") ⟨[.ref (s.heap.objs.size+1)],[]⟩) (PySem.W.InitBack (s.heap.objs.size+1) R)
   {s with heap:=(s.heap.push O8).push (OX C s.heap.objs.size)}):
  QM (model prog w) A (.call (.ref C) ⟨[],[]⟩) R s:=by
 obtain⟨hh,g,d,t,os⟩:=s;exact PySem.W.make_core (O9 X hm) (PySem.W.looks_findIn X hi) hb (.inr ⟨rfl,rfl⟩) h
end
theorem wW.some_of{v:V}{o:Option Qg}(r:wW (some v) o):∃u,o=some u/\RelV v u:=by
 cases o with
 |none=>exact(show False from r).elim
 |some u=>exact⟨u,rfl,r⟩
theorem wW.none_of{o:Option Qg}(r:wW none o):o=none:=by
 cases o with
 |none=>rfl
 |some u=>exact(show False from r).elim
section
variable{P:Qi}{w:Qh}{H H':Hp}{h h':Ql}{a C dx:Qj}{fs fs':List (Str×V)}
theorem Dm(hok:oj P w H h)(e:H a=some (.ins C dx fs)):∃mA,GQ h a dx C mA/\(∀f,wW (fs.lookup f) (mA f))/\PySem.Within mA (fs.map (·.1))/\fs.length<=1000/\H dx=some (.own a):=by
 obtain⟨d,z,ne,ob,mA,n,r,q⟩:=(show cJ P w H h a (.ins C dx fs)from hok a _ e)
 exact⟨mA,⟨ob,n,ne⟩,r,q,z,d⟩
end
structure Fz(K:OZ)(C:Qj):Prop where
 pg:O1 K C Str.empty=true
 hd:Pa K C=true
 po:Pb K C=true
 sa:O2 K (.ref C) "__setattr__"=some (some (.builtin "object.__setattr__"))
theorem Fz.get{K:OZ}{C:Qj}(c:Fz K C)(f:Str):O1 K C f=true:=c.pg
structure Meth(K:OZ)(C:Qj)(m:Str)(f:Qj):Prop where
 at_:O2 K (.ref C) m=some (some (.ref f))
 fn:O3 K (.ref f)=true
 kp:Ph K (.ref f)=true
section
variable{X:Cx}{pins:List (Qj×Obj)}{σ:St}{H:Hp}{s:Qs}{a C dx:Qj}{fs:List (Str×V)}{f:Str}{v:V}{A:Qr}{E:Qg->Qs->Prop}
theorem yn{m:Str}{g:Qj}{pl:Sem Bool}{Q:Qg×List Qg->Qs->Prop}(I:Inv X pins σ H s)(e:H a=some (.ins C dx fs))(c:Fz X.K C)(k:Meth X.K C m g)(l:fs.lookup m=none)
  (h:Q (.ref g,[.ref a]) s):Qu (model X.prog X.w) A (getMethod (.ref a) m pl) Q E s:=by
 obtain⟨mA,O,r,_,_,_⟩:=Dm I.hok e;have hn:mA m=none:=wW.none_of (by rw[<-l];exact r m);exact Dc I.kIn O (c.get m) k.at_ k.fn hn h
theorem Inv.made(I:Inv X pins σ H s):Inv X pins σ (upd (upd H s.heap.objs.size (.own (s.heap.objs.size+1))) (s.heap.objs.size+1) (.ins C s.heap.objs.size []))
  {s with heap:=(s.heap.push O8).push (OX C s.heap.objs.size)}:=by
 have e1:(s.heap.push O8).get? s.heap.objs.size=some O8:=PK s.heap rfl;have e2:((s.heap.push O8).push (OX C s.heap.objs.size)).get? (s.heap.objs.size+1)=some (OX C s.heap.objs.size):=by
  have:=PK (s.heap.push O8) (o:=OX C s.heap.objs.size) rfl
  rwa [PL]at this
 have e3:(s.heap.push O8).Ns s.heap.objs.size (λ_=>none):=⟨O8,#[],_,e1,rfl,(λe he=>absurd he (by simp)),λ_=>rfl⟩
 have I1:=I.laid (a:=s.heap.objs.size) (o:=.own (s.heap.objs.size+1)) (h':=s.heap.push O8) (t':=s.toks) (λb u q=>PJ _ q) (MC _) ⟨_,e1⟩;refine I1.laid (a:=s.heap.objs.size+1) (o:=.ins C s.heap.objs.size []) (t':=s.toks) (λb u q=>PJ _ q) (MH (PL _ _)) ?_;have ne:s.heap.objs.size≠s.heap.objs.size+1:=Mq (Nat.lt_succ_self _);refine⟨by rw[aM ne,aZ],MI _,ne,e2,λ_=>none,(Heap.Ns1.of_empty e3).at λo q=>PJ _ q,λ_=>True.intro,λy hy=>absurd rfl hy⟩
end
section
variable{X:Cx}{o e value:Qv}{f:Str}{pos pos' tpos:Pos}{ta tv:TE}
theorem vU{pl:Sem Bool}{m:Str}{apos:Pos}{args:List Qv}{pins:List (Qj×Obj)}{s:Qs}{σ:St}{H:Hp}{Q:Qg->Qs->Prop}{te:TE}(he:PE X e te)(I:Inv X pins σ H s)
  (h:te σ H fun x H1=>∃ a C dx fs g,x=.ref a/\H1 a=some (.ins C dx fs)/\Fz X.K C/\Meth X.K C m g/\fs.lookup m=none /\
   ∀s1,Inv X pins σ H1 s1->Qu (model X.prog X.w) X.A (QN pos (.ref g) [.ref a] (backTo pos (Qw args X.env)) (backToKw pos (QO [] X.env))) Q X.xe s1)
  (ht:eval (.Call (.Attribute e m apos) args [] pos) X.env=(do
   let ov<-eval e X.env
   standAt apos.atName
   let (f,first)<-holding [ov] (getMethod ov m pl)
   QN pos f first (backTo pos (Qw args X.env)) (backToKw pos (QO [] X.env)))):
  Qu (model X.prog X.w) X.A (eval (.Call (.Attribute e m apos) args [] pos) X.env) Q X.xe s:=by
 refine PySem.W.methodCall_KW (pl:=pl) (eJ (he pins s σ H _ I h) λu s1 ⟨x,H1,I1,rx,a,C,dx,fs,g,ex,ea,c,k,l,q⟩=>?_) ht;subst ex;obtain rfl:u=Value.ref a:=rx;exact yn I1 ea c k l (q s1 I1)
end
structure iB(k:Nat)(A:Qr):Prop where
 hd:A.handled=none
 dp:A.depth+3*k+5<QP
 un:A.units+16*k+200<QQ
theorem iB.mono{j k:Nat}{A:Qr}(r:iB k A)(h:j<=k):iB j A:=⟨r.hd,by have:=r.dp;omega,by have:=r.un;omega⟩
theorem iB.deeper{k:Nat}{A:Qr}(r:iB (k+1) A)(env:Env):iB k (A.deeper env):=
 ⟨r.hd,by have:=r.dp;show A.depth+1+3*k+5<_;omega,by have:=r.un;show A.units+3+16*k+200<_;omega⟩
theorem iB.depth{k:Nat}{A:Qr}(r:iB k A):A.depth<QP:=by have:=r.dp;omega
theorem iB.units{k:Nat}{A:Qr}(r:iB k A):A.units+64<QQ:=by have:=r.un;omega
def JS:TA:=λ_ H Q=>Q [] H
def Ir(ta:TE)(tr:TA):TA:=λσ H Q=>ta σ H λx H1=>tr σ H1 λxs H2=>Q (x::xs) H2
section
variable{X:Cx}{e:Qv}{es:List Qv}{te:TE}{t:TA}{pos:Pos}
theorem oE:PA X [] JS:=λ_ _ _ _ H Q I h=>Calls.spliced_nil ⟨[],H,I,.nil,h⟩
theorem mQ(ha:PE X e te)(hr:PA X es t)(hs:Qw (e::es) X.env=(false,eval e X.env)::Qw es X.env:=by rfl):PA X (e::es) (Ir te t):=by
 intro pos pins s σ H Q I h;rw[hs];show Qu _ _ (spliced ((false,eval e X.env)::backTo pos (Qw es X.env))) _ _ s;refine Calls.spliced_cons (eJ (ha pins s σ H _ I h) λu s1 ⟨x,H1,I1,r1,q1⟩=>?_);exact eJ (hr pos pins s1 σ H1 _ I1 q1) λus s2 ⟨xs,H2,I2,r2,q2⟩=>⟨x::xs,H2,I2,.cons r1 r2,q2⟩
def KW(t:TA):TE:=λσ H Q=>t σ H λxs H1=>xs.length<=Qm/\∀p,H1 p=none->Q (.ref p) (upd H1 p (.tup xs))
def Lp(t:TA):TE:=λσ H Q=>t σ H λxs H1=>xs.length<=Qm/\∀p,H1 p=none->Q (.ref p) (upd H1 p (.lst xs))
theorem Gq{x1}(h:PA X es t):PE X (.Tuple es x1 pos) (KW t):=by
 intro pins s σ H Q I hq;refine wpAny_Tuple_spliced (eJ (h pos pins s σ H _ I hq) λus s1 ⟨xs,H1,I1,r,z,q⟩=>⟨by rw[<-r.length];exact z,?_⟩);have hf:H1 s1.heap.objs.size=none:=I1.hok.fresh (MC _);refine⟨.ref s1.heap.objs.size,upd H1 s1.heap.objs.size (.tup xs),I1.laid (t':=s1.toks) (λb u e=>PJ _ e) (MC _) ?_,rfl,q _ hf⟩;exact⟨z,us,r,⟨_,PK _ rfl,rfl,_,rfl⟩⟩
theorem rV(h:PA X es t):PE X (.List es pos) (Lp t):=by
 intro pins s σ H Q I hq;refine wpAny_List_spliced (eJ (h pos pins s σ H _ I hq) λus s1 ⟨xs,H1,I1,r,z,q⟩=>⟨by rw[<-r.length];exact z,?_⟩);have hf:H1 s1.heap.objs.size=none:=I1.hok.fresh (MC _);refine⟨.ref s1.heap.objs.size,upd H1 s1.heap.objs.size (.lst xs),I1.laid (t':=s1.toks) (λb u e=>PJ _ e) (MC _) ?_,rfl,q _ hf⟩;exact⟨z,us,0,r,PK _ rfl⟩
end
abbrev Sp:=List V->Hp->VK->XK->Prop
abbrev Bc:=List Env->Hp->Qs->XK->Qg->Qs->Prop
structure En(P:Qi)(w:Qh)(K:OZ)(mg:Str->Option Qg)(base:Ql)(A:Qr)(outer:List Env)(s:Qs)(H:Hp):Prop where
 frames:A.frames=some outer
 mod:Mod K mg base
 bs:∀b o,base.get? b=some o->s.heap.get? b=some o/\H b=none
 bsz:base.objs.size<=s.heap.objs.size
 funs:s.heap.FunFrames base outer
 frf:∀b∈frs outer,H b=none
 hok:oj P w H s.heap
 bare:AllBare s.gens
def CE(outer:List Env)(P:Qi)(w:Qh)(H:Hp)(s:Qs)(Q:VK)(u:Qg)(s':Qs):Prop:=
 ∃v H',s'.os=s.os/\AllBare s'.gens/\Un (frs outer) [] H H' s.heap s'.heap/\oj P w H' s'.heap/\RelV v u/\Q v H'
def CR(CX:Bc)(outer:List Env)(P:Qi)(w:Qh)(H:Hp)(s:Qs)(Q:VK)(E:XK)(r:Result)(s':Qs):Prop:=
 match r with
 |.ok (.ret u)=>CE outer P w H s Q u s'
 |.ok _=>False
 |.error e=>CX outer H s E e s'
structure mU(P:Qi)(w:Qh)(K:OZ)(mg:Str->Option Qg)(base:Ql)(CX:Bc)(k:Nat)(f:Qj)(fd:QR)(ps:List Str)(sp:Sp):Prop where
 len:∀vs H Q E,sp vs H Q E->vs.length=ps.length
 run:∀(A:Qr)(outer:List Env)(s:Qs)(H:Hp)(args:Args)(us:List Qg)(vs:List V)(Q:VK)(E:XK),iB k A->En P w K mg base A outer s H->QS s fd args (ps.zip us)->Vals vs us->sp vs H Q E->
  QM (model P w) A (.call (.ref f) args) (CR CX outer P w H s Q E) s
theorem mU.mono{P:Qi}{w:Qh}{K:OZ}{mg:Str->Option Qg}{base:Ql}{CX:Bc}{j k:Nat}{f:Qj}{fd:QR}{ps:List Str}{sp:Sp}(F:mU P w K mg base CX j f fd ps sp)(h:j<=k):
  mU P w K mg base CX k f fd ps sp:=⟨F.len,λA outer s H args us vs Q E hr=>F.run A outer s H args us vs Q E (hr.mono h)⟩
section
variable{X:Cx}{pins:List (Qj×Obj)}{σ:St}{H:Hp}{s s':Qs}
theorem Inv.env0(I:Inv X pins σ H s):En X.prog X.w X.K X.mg X.base X.A X.stack s H:=
 ⟨I.ok.frames,I.ok.mod,I.bs,Mr I.ok.bsz I.sz,I.stack,I.stkFree,I.hok,I.bare⟩
theorem Inv.after{Q:VK}{u:Qg}(I:Inv X pins σ H s)(h:CE X.stack X.prog X.w H s Q u s'):EP X pins σ Q u s':=by
 obtain⟨v,H',os,bare,un,hok,r,q⟩:=h;obtain⟨hh,g,d,t,os'⟩:=s';obtain rfl:os'=s.os:=os;exact⟨v,H',I.call (h':=hh) (g':=g) (d':=d) (t':=t) (ch:=[]) un hok bare (λb z=>absurd z (by simp)),r,q⟩
end
def Binds(K:OZ)(fd:QR)(ps:List Str)(ds:List Qg):Prop:=
 ∀(s:Qs)(us:List Qg),K.In s.heap->(us++ds).length=ps.length->QS s fd ⟨us,[]⟩ (ps.zip (us++ds))
theorem Binds.all{K:OZ}{fd:QR}{ps:List Str}(h:∀us:List Qg,us.length=ps.length->bindArgs fd ⟨us,[]⟩=pure (ps.zip us)):Binds K fd ps []:=λs us _ hl=>by
 rw[MJ]at hl ⊢;exact .of_eq (h us hl)
section
variable{X:Cx}{CX:Bc}{k:Nat}{f C:Qj}{fd:QR}{ps:List Str}{sp:Sp}{dvs:List V}{ds:List Qg}{E:XK}{x m:Str}{p pos apos:Pos}{e o:Qv}{es:List Qv}{ta:TE}{t:TA}
end
structure bq(N P:List Str)(sc:Qt):Prop where
 kind:sc.kind=.function
 co:sc.isCoroutine=false
 gen:sc.isGenerator=false
 nd:N.Nodup
 pre:N.take P.length=P
 par:∀x∈P,sc.names.lookup x=some .local\/sc.names.lookup x=some .cell
 nofree:∀y∈sc.names,y.2≠.free
theorem tu{kindOf:Str->Option QT}{x:Str}:∀{binds:List (Str×Qg)}{m:Str->Option Qg},(∀v,(x,v)∉binds)->bindL kindOf binds m x=m x
 |[],_,_=>rfl
 |(n,v)::r,m,h=>by
  unfold bindL;rw[tu λw hw=>h w (Mw _ hw)];split
  ·have:x≠n:=(by rintro rfl;exact h v Mv);simp[this]
  ·rfl
theorem uf{kindOf:Str->Option QT}{x:Str}:∀{binds:List (Str×Qg)}{m:Str->Option Qg},(∀v,(x,v)∉binds)->bindC kindOf binds m x=m x
 |[],_,_=>rfl
 |(n,v)::r,m,h=>by
  unfold bindC;rw[uf λw hw=>h w (Mw _ hw)];split
  ·rfl
  ·have:x≠n:=(by rintro rfl;exact h v Mv);simp[this]
theorem uh{kindOf:Str->Option QT}{x:Str}{v:Qg}:∀{P:List Str}{vs:List Qg}{i:Nat}{m:Str->Option Qg},P.Nodup->P[i]?=some x->vs[i]?=some v->kindOf x=some .local->
  bindL kindOf (P.zip vs) m x=some v
 |[],_,_,_,_,h,_,_=>by simp at h
 |_::_,[],_,_,_,_,h,_=>by simp at h
 |p::P,w::vs,0,m,nd,h1,h2,hk=>by
  simp at h1 h2;subst h1;subst h2;show bindL kindOf ((p,w)::P.zip vs) m p=_;unfold bindL;rw[tu λv hv=>(List.nodup_cons.mp nd).1 (MK hv).1,if_pos hk];simp
 |p::P,w::vs,i+1,m,nd,h1,h2,hk=>by
  show bindL kindOf ((p,w)::P.zip vs) m x=_;unfold bindL;exact uh (i:=i) (List.nodup_cons.mp nd).2 (by simpa using h1) (by simpa using h2) hk
theorem sN{kindOf:Str->Option QT}{x:Str}{v:Qg}:∀{P:List Str}{vs:List Qg}{i:Nat}{m:Str->Option Qg},P.Nodup->P[i]?=some x->vs[i]?=some v->kindOf x≠some .local->
  bindC kindOf (P.zip vs) m x=some v
 |[],_,_,_,_,h,_,_=>by simp at h
 |_::_,[],_,_,_,_,h,_=>by simp at h
 |p::P,w::vs,0,m,nd,h1,h2,hk=>by
  simp at h1 h2;subst h1;subst h2;show bindC kindOf ((p,w)::P.zip vs) m p=_;unfold bindC;rw[uf λv hv=>(List.nodup_cons.mp nd).1 (MK hv).1,if_neg hk];simp
 |p::P,w::vs,i+1,m,nd,h1,h2,hk=>by
  show bindC kindOf ((p,w)::P.zip vs) m x=_;unfold bindC;exact sN (i:=i) (List.nodup_cons.mp nd).2 (by simpa using h1) (by simpa using h2) hk
def start(N:List Str)(vs:List V):St:=vs.map some++List.replicate (N.length-vs.length) none
def kz(CX:Bc)(P:Qi)(w:Qh)(K:OZ)(mg:Str->Option Qg)(base:Ql)(N:List Str)(qual:Str)(scope:Qt)(f:Qj)(cd:Qg)(A:Qr)(outer:List Env)(s:Qs)(H:Hp)(E:XK):Cx where
 prog:=P
 w:=w
 K:=K
 mg:=mg
 base:=base
 A:=A.deeper (envOfC qual scope s.heap.objs.size f cd)
 N:=N
 s₀:=s
 H₀:=H
 env:=envOfC qual scope s.heap.objs.size f cd
 outer:=outer
 stack:=envOfC qual scope s.heap.objs.size f cd::outer
 ex:=[]
 calm:=true
 fn:=λ_=>true
 pn:=[]
 xe:=λe s'=>Qu (model P w) (A.deeper (envOfC qual scope s.heap.objs.size f cd)) (leaving (envOfC qual scope s.heap.objs.size f cd) e) (λ_ s''=>CX outer H s E e s'') (λe' s''=>CX outer H s E e' s'') s'
theorem vG{sc:Qt}{n:Nat}{x:Str}(h:sc.names.lookup x=some .cell):∃c,(cellsFrom n sc.names []).lookup x=some c:=by
 have q:=Pj sc.names n [] (.inl h);exact Option.isSome_iff_exists.mp q
theorem Ad{CX:Bc}{P:Qi}{w:Qh}{K:OZ}{mg:Str->Option Qg}{base:Ql}{N ps:List Str}{qual:Str}{scope:Qt}{f:Qj}{cd:Qg}{A:Qr}{outer:List Env}{s s1:Qs}{H:Hp}{E:XK}{us:List Qg}{vs:List V}
  (S:bq N ps scope) (hd:A.handled=none) (e0:En P w K mg base A outer s H) (hl:vs.length=ps.length) (r:Vals vs us)
  (x:InCallC s s.heap.objs.size (bindL (envOfC qual scope s.heap.objs.size f cd).kindOf (ps.zip us) λ_=>none) (cellsFrom (s.heap.objs.size+1) scope.names []) (bindC (envOfC qual scope s.heap.objs.size f cd).kindOf (ps.zip us) λ_=>none) s1):
  Inv (kz CX P w K mg base N qual scope f cd A outer s H E) [] (start N vs) H s1:=by
 have hpl:ps.length<=N.length:=by have:=congrArg List.length S.pre;rw[ML]at this;omega
 obtain⟨h1,tk,rfl,hk⟩:=x.done;have noA:∀b:Qj,b∉(kz CX P w K mg base N qual scope f cd A outer s H E).ex:=λb z=>absurd (show b∈([]:List Qj)from z) (by simp);refine⟨⟨e0.mod,S.kind,rfl,rfl,MC _,λy z c h1 h2=>?_,λy hy=>?_,λy c _ h=>?_,λ_=>hd,Around.frames_deeper e0.frames,.inr ⟨rfl,rfl⟩,λb z=>absurd z (noA b),e0.bs,e0.bsz,λb _ _=>noA b,λb z=>absurd z (noA b),e0.funs,e0.frf⟩,
  rfl,e0.bare,Un.kept hk,⟨_,x.toInCall.ns,λi y v h1 h2 h3=>?_⟩,λy c h=>⟨_,x.cell y c h⟩,e0.hok.fresh (MC _),λy c h=>?_,λp hp=>absurd (show p∈([]:List (Qj×Obj))from hp) (by simp),e0.hok.kept hk,?_⟩
 ·exact name_of_addr x.apart (PySem.mem_of_lookup h1) (PySem.mem_of_lookup h2)
 ·have hy:scope.names.lookup y=some .cell\/scope.names.lookup y=some .free:=hy;rcases hy with hy|hy
  ·exact vG hy
  ·exact absurd rfl (S.nofree _ (PySem.mem_of_lookup hy))
 ·exact Ms (x.above y c (PySem.mem_of_lookup h))
 ·have hi:i<vs.length:=by
   unfold start at h2;by_cases hi:i<vs.length
   ·exact hi
   ·rw[MM (by simpa using hi)]at h2;rw[MN]at h2;split at h2<;>cases h2
  have ha:vs[i]?=some v:=by
   unfold start at h2;rw[MO (by simpa using hi),MP]at h2;cases e:vs[i]? with
   |none=>rw[e]at h2;cases h2
   |some a=>rw[e]at h2;cases h2;rfl
  obtain⟨u,hu,rv⟩:=r.get ha;have hp:ps[i]?=some y:=by
   rw[<-S.pre,List.getElem?_take_of_lt ‹0›];exact h1
  have ndP:ps.Nodup:=by rw[<-S.pre];exact S.nd.sublist (List.take_sublist _ _)
  refine⟨u,rv,?_⟩;rcases S.par y (MQ hp)with k|k
  ·exact .inl ⟨k,uh ndP hp hu k⟩
  ·obtain⟨c,e⟩:=vG (n:=s.heap.objs.size+1) k;refine .inr ⟨.inl k,c,e,?_⟩;have q:=x.cell y c e;rw[sN ndP hp hu (by show scope.names.lookup y≠_;rw[k];decide)]at q;exact q
 ·exact e0.hok.fresh (Ms (x.above y c (PySem.mem_of_lookup h)))
 ·unfold start;show _=N.length;rw[MR,MS,List.length_replicate];omega
theorem Fo{CX:Bc}{P:Qi}{w:Qh}{K:OZ}{mg:Str->Option Qg}{base:Ql}{k:Nat}{f:Qj}{name qual:Str}{params:QU}{body:List Qx}{scope:Qt}{dV kV doc pm cdv ct oc:Qg}{an od:Option Qj}
  {osl:Array (Option Qg)} {N ps:List Str} {sp:Sp} (lk:K.lookup f=some ⟨oc,od,.func (Pk name qual params body scope dV kV doc pm an cdv ct),osl⟩) (hcd:Pl K cdv qual=true) (S:bq N ps scope)
  (len:∀vs H Q E,sp vs H Q E->vs.length=ps.length)
  (hbody:∀ (A:Qr) (outer:List Env) (s:Qs) (H:Hp) (vs:List V) (Q:VK) (E:XK),iB k (A.deeper (envOfC qual scope s.heap.objs.size f cdv))->sp vs H Q E ->
   ∃t,AD (kz CX P w K mg base N qual scope f cdv A outer s H E) body t/\t {nx:=λ_ H'=>Q .non H',rt:=Q} (start N vs) H):
  mU P w K mg base CX (k+1) f (Pk name qual params body scope dV kV doc pm an cdv ct) ps sp:=by
 refine⟨len,λA outer s H args us vs Q E hr e0 hb r hsp=>?_⟩;have hl:=len _ _ _ _ hsp;have KX:K.In s.heap:=e0.mod.kin.keeps λb o e=>(e0.bs b o e).1;have lim:s.heap.NoLimit:=e0.mod.nolimit.keeps λb o e=>(e0.bs b o e).1;have hkind:∀y∈ps.zip us,scope.names.lookup y.1=some .local\/(scope.names.lookup y.1=some .cell/\((cellsFrom (s.heap.objs.size+1) scope.names []).lookup y.1).isSome=true):=λ⟨n,v⟩ hy=>by
  rcases S.par n (MK hy).1 with q|q
  ·exact .inl q
  ·exact .inr ⟨q,Pj _ _ _ (.inl q)⟩
 refine codeAny_call_function hr.depth (KX _ _ lk) rfl S.co S.gen rfl (PySem.W.codeRec_of KX hcd) (hb _ _ _ _ ?_);refine wpAny_newFunctionEnv_cells S.kind hkind λenv he s1 x=>?_;subst he;refine⟨lim.keeps x.toInCall.keep,codeAny_func ?_⟩;obtain⟨t,ht,hq⟩:=hbody A outer s H vs Q E (hr.deeper _) hsp;have I:Inv (kz CX P w K mg base N qual scope f cdv A outer s H E) [] (start N vs) H s1:=Ad S hr.hd e0 hl r x;refine Qy (ht [] s1 (start N vs) H _ I hq) (λfl s' hs=>?_) λe s' hs=>hs;have fin:∀{σ':St}{H':Hp}{v:V}{u:Qg},Inv (kz CX P w K mg base N qual scope f cdv A outer s H E) [] σ' H' s'->RelV v u->Q v H'->CE outer P w H s Q u s':=
  λ{σ' H' v u} J rv q=>⟨v,H',J.os,J.bare,J.base,J.hok,rv,q⟩
 cases fl with
 |ret u=>
  obtain⟨v,σ',H',J,rv,q⟩:=hs;exact fin J rv q
 |next=>
  obtain⟨σ',H',J,q⟩:=hs;exact fin (v:=V.non) (u:=Value.none) J rfl q
 |brk=>
  obtain⟨_,_,_,q⟩:=hs;exact False.elim q
 |cont=>
  obtain⟨_,_,_,q⟩:=hs;exact False.elim q
section
variable{X:Cx}{x:Str}{p pos:Pos}{e:Qv}{es:List Qv}{t:TA}{id T:String}{r:List V->Hp->VK->Prop}
def Li(r:List V->Hp->VK->Prop)(t:TA):TE:=λσ H Q=>t σ H λvs H1=>r vs H1 Q
theorem vQ(hc:dN X (.builtin id) r)(hg:Gl X x)(hm:X.mg x=none)(hv:Qq x=some (.builtin id))(ha:PA X (e::es) t)(hn:x≠"__name__":=by decide)(hdb:(x==("__debug__":Str))=false:=by decide)
  (he:Qw (e::es) X.env=(false,eval e X.env)::Qw es X.env:=by rfl) (hpl:(backTo pos (Qw es X.env)).any (·.1)=false:=by rfl):PE X (.Call (.Name x p) (e::es) [] pos) (Li r t):=by
 intro pins s σ H Q I h;refine QV (lx I hg hm hv ?_ hn hdb);exact PyProof.Rows.callWith_builtin1 (eJ (ha pos pins s σ H _ I h) λus s1 ⟨vs,H1,I1,r1,q1⟩=>hc pins s1 σ H1 vs us Q I1 r1 q1) he hpl
theorem Ao(hc:dN X (.type T) r)(hg:Gl X x)(hm:X.mg x=none)(hv:Qq x=some (.type T))(ha:PA X (e::es) t)(hn:x≠"__name__":=by decide)(hdb:(x==("__debug__":Str))=false:=by decide)
  (he:Qw (e::es) X.env=(false,eval e X.env)::Qw es X.env:=by rfl) (hpl:(backTo pos (Qw es X.env)).any (·.1)=false:=by rfl):PE X (.Call (.Name x p) (e::es) [] pos) (Li r t):=by
 intro pins s σ H Q I h;refine QV (lx I hg hm hv ?_ hn hdb);exact PV (eJ (ha pos pins s σ H _ I h) λus s1 ⟨vs,H1,I1,r1,q1⟩=>hc pins s1 σ H1 vs us Q I1 r1 q1) he hpl
end
end L2
namespace HT
open PySem PyProof.Rows
theorem Iy(A:Qr)(s:Qs)(a:Int)(t:Tok)(c:Int)(u:Tok)(prog:Qi)(w:Qh)(E:Qg->Qs->Prop)(Q:Qg->Qs->Prop)(h:Q (.bool (decide (a<c))) s):
  Qu (model prog w) A (richCompare .Lt (.int a t) (.int c u)) Q E s:=
 (PyProof.Rows.lt_int h:Qu (model prog w) A (QJ .Lt (.int a t) (.int c u)) Q E s)
section
open PySem.SeqAt
open PySem.AutoSeq1 (wpAny_loadPart')
open PySem.MeetsSeq PySem.MeetsSeq2 PySem.MeetsSeq3
end
section
variable{prog:Qi}{w:Qh}{A:Qr}{E:Qg->Qs->Prop}{s:Qs}
theorem JB{t b:Qj}{vs ws:List Qg}{Q:Qg->Qs->Prop}(ht:Qn s.heap t vs.toArray)(hb:Qn s.heap b ws.toArray)(hv:vs≠[])
  (h1:ws=[]->Q (.ref t) s) (h2:ws≠[]->Q (.ref s.heap.objs.size) {s with heap:=s.heap.push {cls:=.type "tuple",data:=.seq (vs++ws).toArray}})
  (hsz:vs.length+ws.length<=Qm):Qu (model prog w) A (QI .Add (.ref t) (.ref b)) Q E s:=by
 obtain⟨⟨cls,dd,data,sl⟩,ho,hc,n,hd⟩:=id ht;obtain⟨⟨cls2,dd2,data2,sl2⟩,ho2,hc2,n2,hd2⟩:=id hb;simp only at hc hd hc2 hd2;subst hc hd hc2 hd2;have e:vs.toArray++ws.toArray=(vs++ws).toArray:=by simp
 by_cases hw:ws=[]
 ·exact QW ⟨_,ho,rfl⟩ ⟨_,ho2,rfl⟩ QX QY Qb Qc (Qd _ _)
   (tuple_addW1 t b vs.toArray ws.toArray n n2 dd dd2 sl sl2 (by simpa using hv) (by simp[hw])) ⟨ho,ho2,h1 hw⟩
 ·refine QW ⟨_,ho,rfl⟩ ⟨_,ho2,rfl⟩ QX QY Qb Qc (Qd _ _)
   (tuple_addW2 t b vs.toArray ws.toArray n n2 dd dd2 sl sl2 (by simpa using hv) (by simpa using hw) (by rw[MF,MF];exact hsz)) ⟨ho,ho2,?_⟩
  rw[e];exact h2 hw
def sIx(n d:Nat):Option Int->Nat
 |none=>d
 |some v=>if v<0 then(v+(n:Int)).toNat else min v.toNat n
theorem IT(n d:Nat):sIx n d none=d:=rfl
theorem Jo(n d k:Nat):sIx n d (some (k:Int))=min k n:=by
 show(if(k:Int)<0 then((k:Int)+(n:Int)).toNat else min (k:Int).toNat n)=min k n;rw[if_neg ‹0›,MT]
theorem Gj(n d:Nat)(hd:d<=n)(o:Option Int):sIx n d o<=n:=by
 cases o with
 |none=>exact hd
 |some v=>
  show(if v<0 then(v+(n:Int)).toNat else min v.toNat n)<=n;by_cases hv:v<0
  ·rw[if_pos hv];omega
  ·rw[if_neg hv];exact Nat.min_le_right _ _
theorem zt(v:Int)(n d:Nat):(if v<0 then max (v+(n:Int)) 0 else min v (n:Int))=((sIx n d (some v):Nat):Int):=by
 show(if v<0 then max (v+(n:Int)) 0 else min v (n:Int))=(((if v<0 then(v+(n:Int)).toNat else min v.toNat n):Nat):Int)
 by_cases hv:v<0
 ·simp only[if_pos hv];omega
 ·simp only[if_neg hv];omega
theorem yz(lo hi:Option Int)(n:Nat):Builtin.Slice.sliceAdjust lo hi 1 (n:Int)=(((sIx n 0 lo:Nat):Int),((sIx n n hi:Nat):Int)):=by
 have h1:¬((1:Int)<0):=by omega
 unfold Builtin.Slice.sliceAdjust;simp only[h1,if_false];refine Prod.ext ?_ ?_
 ·cases lo with
  |none=>rfl
  |some v=>exact zt v n 0
 ·cases hi with
  |none=>rfl
  |some v=>exact zt v n n
theorem yr(i j:Nat):Builtin.Slice.slicePlaces (i:Int) (j:Int) 1=j-i:=by
 unfold Builtin.Slice.slicePlaces;have h1:(1:Int)>0:=by omega
 simp only[h1,if_true,Int.ediv_one];split<;>omega
theorem qL{v:Qg}{o:Option Int}{Q:Option Int->Qs->Prop}(p:QZ v o)(h:Q o s):Qu (model prog w) A (Builtin.Slice.slicePartIndex v) Q E s:=by
 cases p with
 |none=>exact slicePart_none h
 |int i t=>exact slicePart_int h
theorem o7{sl:Qj}{vl vu:Qg}{lo hi:Option Int}{n:Nat}{Q:Int×Int×Nat->Qs->Prop}(hs:s.heap.IsSliceOf sl vl vu .none)(pl:QZ vl lo)(pu:QZ vu hi)
  (h:Q (((sIx n 0 lo:Nat):Int),1,sIx n n hi-sIx n 0 lo) s):Qu (model prog w) A (Builtin.Slice.sliceApplied (.ref sl) (pure (n:Int))) Q E s:=by
 obtain⟨os,hos,hcs,hds⟩:=id hs;unfold Builtin.Slice.sliceApplied Builtin.Slice.sliceFields;refine QD (QD (Q0 hos hds (x:=vl) rfl (QD (Q0 hos hds (x:=vu) rfl (QD (Q0 hos hds (x:=.none) rfl (QC ?_)))))));refine QD (slicePart_none ?_);show Qu _ _ (if((1:Int)==0)=true then _ else _) _ _ s;rw[if_neg (by decide)];refine QD (qL pl (QD (qL pu (QD (QC ?_)))));show Qu _ _ (match Builtin.Slice.sliceAdjust lo hi 1 (n:Int)with|(lo,hi)=>pure (lo,(1:Int),Builtin.Slice.slicePlaces lo hi 1)) _ _ s;rw[yz lo hi n];show Qu _ _ (pure (((sIx n 0 lo:Nat):Int),(1:Int),Builtin.Slice.slicePlaces ((sIx n 0 lo:Nat):Int) ((sIx n n hi:Nat):Int) 1)) _ _ s;rw[yr];exact QC h
theorem Cr(xs:Array Qg)(i k:Nat):((List.range k).filterMap λ(m:Nat)=>xs[((i:Int)+(m:Int)*1).toNat]?).toArray=((xs.toList.drop i).take k).toArray:=by
 have e:(λ(m:Nat)=>xs[((i:Int)+(m:Int)*1).toNat]?)=λm=>xs[i+m]?:=by
  funext m
  have:((i:Int)+(m:Int)*1).toNat=i+m:=by omega
  rw[this]
 rw[e]
 have:=pick_run xs i k
 rw[List.filterMap_map]at this;have e2:((λx=>xs[x]?)∘λx=>i+x)=λm=>xs[i+m]?:=rfl;rw[e2]at this;rw[this]
theorem zj{t sl:Qj}{items:Array Qg}{vl vu:Qg}{lo hi:Option Int}{Q:Qg->Qs->Prop}(ht:Qn s.heap t items)(hs:s.heap.IsSliceOf sl vl vu .none)(pl:QZ vl lo)(pu:QZ vu hi)
  (hw:¬(sIx items.size 0 lo=0/\sIx items.size items.size hi=items.size))
  (h:Q (.ref s.heap.objs.size) {s with heap:=s.heap.push {cls:=.type "tuple",data:=.seq ((items.toList.drop (sIx items.size 0 lo)).take (sIx items.size items.size hi-sIx items.size 0 lo)).toArray}})
  (hsz:items.size<=Qm):Qu (model prog w) A (getItem (.ref t) (.ref sl)) Q E s:=by
 have htake:sizeOk (.seq ((items.toList.drop (sIx items.size 0 lo)).take (sIx items.size items.size hi-sIx items.size 0 lo)).toArray):=by
  show((items.toList.drop (sIx items.size 0 lo)).take (sIx items.size items.size hi-sIx items.size 0 lo)).toArray.size<=Qm;rw[MF,ML,MU,Array.length_toList];omega
 have hj:sIx items.size items.size hi<=items.size:=Gj _ _ (MC _) hi;obtain⟨os,hos,hcs,hds⟩:=id hs;have hTs:s.TypeIs (.ref sl) "slice":=⟨os,hos,hcs⟩
 unfold getItem
 try with_reducible refine Q1 ?_
 first|refine QD (QC ?_)|skip
 refine QD (wpAny_sequenceKey ht.typeIs (by decide) ?_);refine QD (Q2 (name:=Str.ofString "__getitem__") ht.typeIs PX
  (Q3 PX ht.typeIs entry_tuple_getitem ?_ (args_tuple_getitem _ _)))
 show Qu _ _ (Builtin.Tuple.tupleItemsOf (.ref t) >>= _) _ _ s;refine QD (tupleItemsOf_ ht ?_);refine QD (Q4 hTs ?_);rw[if_pos (by decide)];refine QD (o7 hs pl pu ?_);have hno:¬((((sIx items.size 0 lo:Nat):Int)==0&&(1:Int)==1&&(sIx items.size items.size hi-sIx items.size 0 lo)==items.size)=true):=by
  intro q;rw[MV,MV]at q;have q1:((sIx items.size 0 lo:Nat):Int)=0:=eq_of_beq q.1.1;have q2:sIx items.size items.size hi-sIx items.size 0 lo=items.size:=eq_of_beq q.2;exact hw ⟨by omega,by omega⟩
 show Qu _ _ (if(((sIx items.size 0 lo:Nat):Int)==0&&(1:Int)==1&&(sIx items.size items.size hi-sIx items.size 0 lo)==items.size)=true then _ else _) _ _ s;rw[if_neg hno,Cr]
 first
  |exact QD (m:=Builtin.Tuple.tupleExact _) (Q5 (QC ⟨_,rfl,QC h⟩) htake)
  |exact QD (m:=Builtin.Tuple.tupleExact _) (Q5 (QD (QC (QC ⟨_,rfl,QC h⟩))) htake)
  |exact QD (QD (m:=Builtin.Tuple.tupleExact _) (Q5 (QC (QC ⟨_,rfl,QC h⟩)) htake))
  |exact QD (QD (m:=Builtin.Tuple.tupleExact _) (Q5 (QC ⟨_,rfl,QC h⟩) htake))
end
end HT
namespace L2
open PySem PySem.Spec PyProof.Rows
abbrev TO:=St->Hp->(Option Int->Hp->Prop)->Prop
def PO(X:Cx)(e:Option Qv)(t:TO):Prop:=
 ∀(pins:List (Qj×Obj))(s:Qs)(σ:St)(H:Hp)(Q:Option Int->Hp->Prop),Inv X pins σ H s->t σ H Q->
  Qu (model X.prog X.w) X.A (evalPart e X.env) (λu s'=>∃o H',Inv X pins σ H' s'/\QZ u o/\Q o H') X.xe s
def DE:TO:=λ_ H Q=>Q none H
def IU(t:TE):TO:=λσ H Q=>t σ H λx H1=>∃i,x=.int i/\Q (some i) H1
section
variable{X:Cx}{e:Qv}{te:TE}{lo hi:Option Qv}{tl th:TO}{pos p2:Pos}
theorem DG:PO X none DE:=by
 intro pins s σ H Q I h;rw[Q6];exact QC ⟨none,H,I,.none,h⟩
theorem D9(h:PE X e te):PO X (some e) (IU te):=by
 intro pins s σ H Q I hw;rw[evalPart_some];refine eJ (h pins s σ H _ I hw) λu s1 ⟨x,H1,I1,r1,q1⟩=>?_;obtain⟨i,rfl,q⟩:=q1;obtain⟨t,rfl⟩:=r1;exact⟨some i,H1,I1,.int i t,q⟩
def Jr(X:Cx)(r:V->Option Int->Option Int->Hp->VK->Prop):Prop:=
 ∀(pins:List (Qj×Obj))(s:Qs)(σ:St)(H:Hp)(x:V)(v vl vu:Qg)(lo hi:Option Int)(sl:Qj)(Q:VK),Inv X pins σ H s->RelV x v->s.heap.IsSliceOf sl vl vu .none->QZ vl lo->QZ vu hi->r x lo hi H Q->
  ∃T id,typeLookup (.type T) "__getitem__"=pure (some (.builtin id))/\s.TypeIs v T/\Qu (model X.prog X.w) X.A (getItem v (.ref sl)) (EP X pins σ Q) X.xe s
def Mb(r:V->Option Int->Option Int->Hp->VK->Prop)(te:TE)(tl th:TO):TE:=λσ H Q=>te σ H λx H1=>tl σ H1 λl H2=>th σ H2 λu H3=>r x l u H3 Q
theorem B3{r:V->Option Int->Option Int->Hp->VK->Prop}(hr:Jr X r)(he:PE X e te)(hl:PO X lo tl)(hu:PO X hi th):PE X (.Subscript e (.Slice lo hi none p2) pos) (Mb r te tl th):=by
 intro pins s σ H Q I h;refine Q7 (eJ (he pins s σ H _ I h) λv s1 ⟨x,H1,I1,r1,q1⟩=>?_);refine wpAny_Slice (eJ (hl pins s1 σ H1 _ I1 q1) λvl s2 ⟨l,H2,I2,pl,q2⟩=>eJ (hu pins s2 σ H2 _ I2 q2) λvu s3 ⟨u,H3,I3,pu,q3⟩=>?_);rw[Q6];refine QC ?_;have I4:Inv X pins σ H3 {s3 with heap:=s3.heap.push {cls:=.type "slice",data:=.fields #[vl,vu,.none]}}:=I3.kept (t':=s3.toks) λb ob q=>PJ _ q;obtain⟨T,id,hT,ht,hg⟩:=hr pins {s3 with heap:=s3.heap.push {cls:=.type "slice",data:=.fields #[vl,vu,.none]}} σ H3 x v vl vu l u s3.heap.objs.size Q I4 r1 (Heap.IsSliceOf.new ..) pl pu q3;show Qu (model X.prog X.w) X.A (subscriptTail e (.Slice lo hi none p2) v (.ref s3.heap.objs.size)) (EP X pins σ Q) X.xe {s3 with heap:=s3.heap.push {cls:=.type "slice",data:=.fields #[vl,vu,.none]}};exact tail_any (ops:=[.ref s3.heap.objs.size,v]) ht hT hg (by with_unfolding_all rfl)
def wD(xs:List V)(lo hi:Option Int):List V:=(xs.drop (HT.sIx xs.length 0 lo)).take (HT.sIx xs.length xs.length hi-HT.sIx xs.length 0 lo)
theorem pR(xs:List V)(lo hi:Option Int):(wD xs lo hi).length<=xs.length:=by
 unfold wD;rw[ML,MU];omega
def J3(K:OZ):V->Option Int->Option Int->Hp->VK->Prop:=λx lo hi H Q=>∃a xs,x=.ref a/\oF K H a xs/\
 ¬(HT.sIx xs.length 0 lo=0/\HT.sIx xs.length xs.length hi=xs.length)/\∀p,H p=none->Q (.ref p) (upd H p (.tup (wD xs lo hi)))
theorem GH:Jr X (J3 X.K):=by
 intro pins s σ H x v vl vu lo hi sl Q I rx hs pl pu h;obtain⟨a,xs,rfl,hx,hw,q⟩:=h;cases rx;obtain⟨its,r,ht,hz⟩:=I.tuple hx;have hlen:its.toArray.size=xs.length:=by rw[MF];exact r.length.symm
 refine⟨"tuple",_,PyProof.Rows.slot_tuple_getitem.lookup,ht.typeIs,?_⟩;refine HT.zj ht hs pl pu (by rw[hlen];exact hw) ?_ (by rw[hlen];exact hz);rw[hlen];refine⟨.ref s.heap.objs.size,_,I.laid (t':=s.toks) (o:=.tup (wD xs lo hi)) (λb ob q=>PJ _ q) (MC _) ?_,rfl,q _ (I.hok.fresh (MC _))⟩;exact⟨Mr (pR xs lo hi) hz,_,(r.drop (HT.sIx xs.length 0 lo)).take (HT.sIx xs.length xs.length hi-HT.sIx xs.length 0 lo),IsTup.new _ _⟩
def Hw(K:OZ):R2:=λx y H Q=>∃a b xs ys,x=.ref a/\y=.ref b/\oF K H a xs/\oF K H b ys/\xs≠[]/\xs.length+ys.length<=Qm/\
 (ys=[]->Q (.ref a) H)/\(ys≠[]->∀p,H p=none->Q (.ref p) (upd H p (.tup (xs++ys))))
theorem Vals.nil_iff{xs:List V}{us:List Qg}(r:Vals xs us):us=[]↔xs=[]:=by
 cases r with
 |nil=>simp
 |cons _ _=>simp
theorem Ek:kQ X (QI .Add) (Hw X.K):=by
 intro pins s σ H x y v u Q I rx ry h;obtain⟨a,b,xs,ys,rfl,rfl,ha,hb,hx,hz,q1,q2⟩:=h;cases rx;cases ry;obtain⟨its,r1,p1,_⟩:=I.tuple ha;obtain⟨its2,r2,p2,_⟩:=I.tuple hb;refine HT.JB p1 p2 (λz=>hx (r1.nil_iff.mp z)) (λz=>⟨.ref a,H,I,rfl,q1 (r2.nil_iff.mp z)⟩) (λz=>?_) (by rw[<-r1.length,<-r2.length];exact hz);refine⟨.ref s.heap.objs.size,_,I.laid (t':=s.toks) (o:=.tup (xs++ys)) (λb ob q=>PJ _ q) (MC _) ?_,rfl,q2 (λw=>z (r2.nil_iff.mpr w)) _ (I.hok.fresh (MC _))⟩;exact⟨by rw[MR];exact hz,_,r1.append r2,IsTup.new _ _⟩
end
def Et(n:Nat)(i:Int):Option Nat:=if 0<=i then(if i<n then some i.toNat else none)else if -(n:Int)<=i then some (i+n).toNat else none
def nI{α:Type}(xs:List α)(i:Int):Option α:=(Et xs.length i).bind λj=>xs[j]?
theorem EA{n:Nat}{i:Int}{j:Nat}(h:Et n i=some j):seqIndex? i n=some j/\j<n/\-(n:Int)<=i/\i<n:=by
 unfold Et at h;by_cases h0:0<=i
 ·rw[if_pos h0]at h;by_cases h1:i<n
  ·rw[if_pos h1]at h;have e:i.toNat=j:=Option.some.inj h;exact⟨by rw[seqIndex_of h0 h1,e],by omega,by omega,h1⟩
  ·rw[if_neg h1]at h;cases h
 ·rw[if_neg h0]at h;by_cases h1:-(n:Int)<=i
  ·rw[if_pos h1]at h;have e:(i+n).toNat=j:=Option.some.inj h;exact⟨by rw[seqIndex_neg ‹0› h1,e],by omega,h1,by omega⟩
  ·rw[if_neg h1]at h;cases h
theorem vc{α:Type}{xs:List α}{i:Int}{v:α}(h:nI xs i=some v):∃j,seqIndex? i xs.length=some j/\xs[j]?=some v/\j<xs.length/\-(xs.length:Int)<=i/\i<xs.length:=by
 unfold nI at h;cases e:Et xs.length i with
 |none=>rw[e]at h;cases h
 |some j=>
  rw[e]at h;obtain⟨h1,h2,h3,h4⟩:=EA e;exact⟨j,h1,h,h2,h3,h4⟩
theorem Eu{α:Type}{xs:List α}{j:Nat}{v:α}(h:xs[j]?=some v):nI xs (j:Int)=some v:=by
 have hj:j<xs.length:=(List.getElem?_eq_some_iff.mp h).1;have e:Et xs.length (j:Int)=some j:=by
  unfold Et;rw[if_pos ‹0›,if_pos ‹0›];simp
 unfold nI;rw[e];exact h
def nT(b:Qv):Prop:=∀o i,subscripted b false o i=operate [o,i] (getItem o i)
def HU(X:Cx)(r:R2):Prop:=
 ∀(value slice:Qv)(pins:List (Qj×Obj))(s:Qs)(σ:St)(H:Hp)(x y:V)(v u:Qg)(Q:VK),Inv X pins σ H s->RelV x v->RelV y u->r x y H Q->
  subscripted slice false v u=operate [v,u] (getItem v u)->Qu (model X.prog X.w) X.A (subscriptTail value slice v u) (EP X pins σ Q) X.xe s
def Ma(X:Cx)(id:String)(r:V->List V->Hp->VK->Prop):Prop:=
 ∀(pins:List (Qj×Obj))(s:Qs)(σ:St)(H:Hp)(x:V)(xs:List V)(v:Qg)(us:List Qg)(Q:VK),Inv X pins σ H s->RelV x v->Vals xs us->r x xs H Q->
  Qu (model X.prog X.w) X.A (call (.builtin id) (v::us)) (EP X pins σ Q) X.xe s
section
variable{X:Cx}{a b:Qv}{ta tb:TE}{pos:Pos}
theorem EC{r:R2}(hr:HU X r)(ha:PE X a ta)(hb:PE X b tb)(hs:nT b):PE X (.Subscript a b pos) (Jf r ta tb):=by
 intro pins s σ H Q I h;exact Q7 (FY ha hb I h λv u s2 x y H2 I2 rx ry q=>hr a b pins s2 σ H2 x y v u Q I2 rx ry q (hs _ _))
def JP(K:OZ):R2:=λx y H Q=>∃p xs i v,x=.ref p/\y=.int i/\nG K H p xs/\nI xs i=some v/\Q v H
def KA(K:OZ):R2:=λx y H Q=>∃p xs i v,x=.ref p/\y=.int i/\oF K H p xs/\nI xs i=some v/\Q v H
def JX:R2:=λx y H Q=>∃z i c,x=.str z/\y=.int i/\z.length<=Qm/\nI z.cps.toList i=some c/\Q (.str ⟨#[c]⟩) H
theorem zD:HU X (JP X.K):=by
 intro value slice pins s σ H x y v u Q I rx ry h hs;obtain⟨p,xs,i,z,rfl,rfl,hq,he,q⟩:=h;cases rx;obtain⟨t,rfl⟩:=ry;obtain⟨its,r,pl,hz⟩:=I.list hq;obtain⟨j,h1,h2,h3,h4,h5⟩:=vc he;obtain⟨w,ew,rw'⟩:=r.get h2;have hl:=r.length;have hn:=ph;have fin:EP X pins σ Q w s:=⟨z,H,I,rw',q⟩
 by_cases h0:0<=i
 ·have hj:i.toNat=j:=by
   rw[seqIndex_of h0 h5]at h1;exact Option.some.inj h1
  exact item_listR pl.isList h0 ‹0› (by rw[hj];simpa using ew) fin hs
 ·have hj:(i+(its.toArray.size:Int)).toNat=j:=by
   rw[seqIndex_neg ‹0› h4]at h1;rw[MF,<-hl];exact Option.some.inj h1
  exact subscriptTail_builtinR (x:=w) pl.isList.typeIs slot_list_getitem.lookup
   (wpAny_getItem_list_neg (Q:=λr s'=>r=w/\EP X pins σ Q r s') pl.isList ‹0› (by rw[MF]<;>omega) ‹0› (by rw[hj];simpa using ew) ⟨rfl,fin⟩) hs
theorem GP:HU X (KA X.K):=by
 intro value slice pins s σ H x y v u Q I rx ry h hs;obtain⟨p,xs,i,z,rfl,rfl,hq,he,q⟩:=h;cases rx;obtain⟨t,rfl⟩:=ry;obtain⟨its,r,pl,hz⟩:=I.tuple hq;obtain⟨j,h1,h2,h3,h4,h5⟩:=vc he;obtain⟨w,ew,rw'⟩:=r.get h2;have hl:=r.length;have hn:=ph;have fin:EP X pins σ Q w s:=⟨z,H,I,rw',q⟩
 exact subscriptTail_builtinR (x:=w) pl.typeIs slot_tuple_getitem.lookup
  (getItem_tuple (j:=j) (Q:=λr s'=>r=w/\EP X pins σ Q r s') pl ‹0› ‹0› (by rw[MF,<-hl];exact h1) (by simpa using ew) ⟨rfl,fin⟩) hs
theorem Fx:HU X JX:=by
 intro value slice pins s σ H x y v u Q I rx ry h hs;obtain⟨z,i,c,rfl,rfl,hz,he,q⟩:=h;obtain⟨t,rfl⟩:=rx;obtain⟨t',rfl⟩:=ry;obtain⟨j,h1,h2,h3,h4,h5⟩:=vc he;have hl:z.cps.toList.length=z.length:=by simp[Str.length]
 rw[hl]at h1 h4 h5;have hn:=ph;exact tail_any (typeIs_str s z t) slot_str_getitem.lookup (getItem_str (c:=c) (by
  have e1:decide (i < -(2^63:Int))=false:=decide_eq_false ‹0›;have e2:decide (i>=2^63)=false:=decide_eq_false ‹0›;rw[e1,e2,Bool.or_false]) (by rw[h1];simpa using h2) ⟨.str ⟨#[c]⟩,H,I.tok _,⟨_,rfl⟩,q⟩) hs
theorem uR(lo hi:Option Int)(n:Nat):(sliceBounds lo hi none n).1=((HT.sIx n 0 lo:Nat):Int)/\(sliceBounds lo hi none n).2.1=((HT.sIx n n hi:Nat):Int)/\(sliceBounds lo hi none n).2.2=1:=by
 refine⟨?_,?_,rfl⟩
 ·cases lo with
  |none=>simp[sliceBounds,HT.sIx]
  |some i=>
   simp only[sliceBounds,HT.sIx,MX,show(1:Int)>0 by decide,if_true];by_cases h:i<0
   ·simp only[h,if_true]<;>omega
   ·simp only[h,if_false]<;>omega
 ·cases hi with
  |none=>simp[sliceBounds,HT.sIx]
  |some i=>
   simp only[sliceBounds,HT.sIx,MX,show(1:Int)>0 by decide,if_true];by_cases h:i<0
   ·simp only[h,if_true]<;>omega
   ·simp only[h,if_false]<;>omega
theorem sF(its:List Qg)(lo hi:Option Int):slicePick its.toArray lo hi none=((its.drop (HT.sIx its.length 0 lo)).take (HT.sIx its.length its.length hi-HT.sIx its.length 0 lo)).toArray:=by
 obtain⟨h1,h2,h3⟩:=uR lo hi its.toArray.size;unfold slicePick;rw[h1,h2,h3];simp only[sliceRange_one,pick_run,MF]<;>rfl
def JY(K:OZ):V->Option Int->Option Int->Hp->VK->Prop:=λx lo hi H Q=>∃a xs,x=.ref a/\nG K H a xs/\∀p,H p=none->Q (.ref p) (upd H p (.lst (wD xs lo hi)))
theorem Dk:Jr X (JY X.K):=by
 intro pins s σ H x v vl vu lo hi sl Q I rx hs pl pu h;obtain⟨a,xs,rfl,hx,q⟩:=h;cases rx;obtain⟨its,r,ht,hz⟩:=I.list hx;have hlen:=r.length;refine⟨"list",_,slot_list_getitem.lookup,ht.isList.typeIs,?_⟩;refine wpAny_getItem_list_slice ht.isList hs pl pu .none (by simp) ?_ (by rw[MF]<;>omega);rw[sF,<-hlen];refine⟨.ref s.heap.objs.size,_,I.laid (t':=s.toks) (o:=.lst (wD xs lo hi)) (λb ob q=>PJ _ q) (MC _) ?_,rfl,q _ (I.hok.fresh (MC _))⟩;exact⟨Mr (pR xs lo hi) hz,_,0,(r.drop (HT.sIx xs.length 0 lo)).take (HT.sIx xs.length xs.length hi-HT.sIx xs.length 0 lo),PK _ rfl⟩
def C0:V->Bool
 |.non=>true
 |.bl _=>true
 |.int _=>true
 |.str _=>true
 |_=>false
def Ls:V->V->Bool
 |.non,.non=>true
 |.bl a,.bl b=>a==b
 |.bl a,.int b=>(if a then 1 else 0)==b
 |.int a,.bl b=>a==(if b then 1 else 0)
 |.int a,.int b=>a==b
 |.str a,.str b=>a==b
 |_,_=>false
theorem G6{A:Qr}{s:Qs}{y x:V}{u v:Qg}(ry:RelV y u)(rx:RelV x v)(fy:C0 y=true)(fx:C0 x=true):SeqAt.EqAt A s u v (Ls y x):=by
 cases y with
 |non=>
  cases ry;cases x with
  |non=>cases rx;exact SeqAt.EqAt.same _
  |bl b=>cases rx;exact SeqAt.EqAt.none_bool b
  |int b=>obtain⟨t,rfl⟩:=rx;exact SeqAt.EqAt.none_int b t
  |str b=>obtain⟨t,rfl⟩:=rx;exact SeqAt.EqAt.none_str b t
  |_=>exact absurd (show false=true from fx) MG
 |bl a=>
  cases ry;cases x with
  |non=>cases rx;exact SeqAt.EqAt.bool_none a
  |bl b=>cases rx;exact SeqAt.EqAt.bool_bool a b
  |int b=>obtain⟨t,rfl⟩:=rx;exact SeqAt.EqAt.bool_int a b t
  |str b=>obtain⟨t,rfl⟩:=rx;exact SeqAt.EqAt.bool_str a b t
  |_=>exact absurd (show false=true from fx) MG
 |int a=>
  obtain⟨t',rfl⟩:=ry;cases x with
  |non=>cases rx;exact SeqAt.EqAt.int_none a t'
  |bl b=>cases rx;exact SeqAt.EqAt.int_bool a t' b
  |int b=>obtain⟨t,rfl⟩:=rx;exact SeqAt.EqAt.int_int a t' b t
  |str b=>obtain⟨t,rfl⟩:=rx;exact SeqAt.EqAt.int_str a t' b t
  |_=>exact absurd (show false=true from fx) MG
 |str a=>
  obtain⟨t',rfl⟩:=ry;cases x with
  |non=>cases rx;exact SeqAt.EqAt.str_none a t'
  |bl b=>cases rx;exact SeqAt.EqAt.str_bool a t' b
  |int b=>obtain⟨t,rfl⟩:=rx;exact SeqAt.EqAt.str_int a t' b t
  |str b=>obtain⟨t,rfl⟩:=rx;exact SeqAt.EqAt.str_str a t' b t
  |_=>exact absurd (show false=true from fx) MG
 |_=>exact absurd (show false=true from fy) MG
theorem nY:dN X (.builtin "len") (λxs H Q=>∃p ys,xs=[.ref p]/\(nG X.K H p ys\/oF X.K H p ys)/\Q (.int ys.length) H):=by
 intro pins s σ H xs us Q I r h;obtain⟨p,ys,rfl,hq,q⟩:=h;obtain⟨u,rfl,rx⟩:=vals1 r;cases rx;have hn:=ph;rcases hq with hq|hq
 ·obtain⟨its,r',pl,hz⟩:=I.list hq;have hlen:=r'.length;exact Calls.call_len_list pl.isList (by simp only[MF]<;>omega) ⟨.int ys.length,H,I.tok _,⟨s.toks+1,by rw[MF,hlen]⟩,q⟩
 ·obtain⟨its,r',pl,hz⟩:=I.tuple hq;have hlen:=r'.length;exact len_tuple pl (by simp only[MF]<;>omega) ⟨.int ys.length,H,I.tok _,⟨s.toks+1,by rw[MF,hlen]⟩,q⟩
theorem uA:dN X (.builtin "len") (λxs H Q=>∃z,xs=[.str z]/\z.length<=Qm/\Q (.int z.length) H):=by
 intro pins s σ H xs us Q I r h;obtain⟨z,rfl,hz,q⟩:=h;obtain⟨u,rfl,t,rfl⟩:=vals1 r;have hn:=ph;exact len_str ‹0› ⟨.int z.length,H,I.tok _,⟨_,rfl⟩,q⟩
theorem og:dN X (.type "list") (λxs H Q=>∃p ys,xs=[.ref p]/\(nG X.K H p ys\/oF X.K H p ys)/\∀l,H l=none->Q (.ref l) (upd H l (.lst ys))):=by
 intro pins s σ H xs us Q I r h;obtain⟨p,ys,rfl,hq,q⟩:=h;obtain⟨u,rfl,rx⟩:=vals1 r;cases rx;have fin:∀(its:List Qg),Vals ys its->ys.length<=Qm->∀(h':Ql)(c':Nat),(∀b o',s.heap.get? b=some o'->h'.get? b=some o')->
   h'.get? s.heap.objs.size=some {cls:=.type "list",dict:=none,data:=.seq its.toArray c',slots:=#[]}->EP X pins σ Q (.ref s.heap.objs.size) {s with heap:=h'}:=λits r' hz h' c' kp e=>
  ⟨.ref s.heap.objs.size,_,I.laid (t':=s.toks) kp (MC _) (show cJ X.prog X.w _ h' _ (.lst ys)from⟨hz,its,c',r',e⟩),rfl,q _ (I.hok.fresh (MC _))⟩
 rcases hq with hq|hq
 ·obtain⟨its,r',pl,hz⟩:=I.list hq;have hlen:=r'.length;obtain⟨o,ho,hc,n,hd⟩:=pl.isList;exact call_list_seq p (.inl rfl) ho hc hd (λh' c' kp e=>fin its r' hz h' c' kp e) (by simp only[MF]<;>omega)
 ·obtain⟨its,r',pl,hz⟩:=I.tuple hq;have hlen:=r'.length;obtain⟨o,ho,hc,n,hd⟩:=pl;exact call_list_seq p (.inr rfl) ho hc hd (λh' c' kp e=>fin its r' hz h' c' kp e) (by simp only[MF]<;>omega)
theorem mZ:dN X (.type "tuple") (λxs H Q=>∃p ys,xs=[.ref p]/\((nG X.K H p ys/\∀l,H l=none->Q (.ref l) (upd H l (.tup ys)))\/(oF X.K H p ys/\Q (.ref p) H))):=by
 intro pins s σ H xs us Q I r h;obtain⟨p,ys,rfl,h⟩:=h;obtain⟨u,rfl,rx⟩:=vals1 r;cases rx;rcases h with⟨hq,q⟩|⟨hq,q⟩
 ·obtain⟨its,r',pl,hz⟩:=I.list hq;have hlen:=r'.length;refine call_tuple_list pl.isList (λh' kp=>?_) (by simp only[MF]<;>omega);have I1:Inv X pins σ H {s with heap:=h'}:=I.kept (t':=s.toks) kp;have I2:Inv X pins σ (upd H h'.objs.size (.tup ys)) {s with heap:=h'.push {cls:=.type "tuple",data:=.seq its.toArray}}:=
   I1.laid (t':=s.toks) (λb o e=>PJ _ e) (MC _) (show cJ X.prog X.w _ _ _ (.tup ys)from⟨hz,its,r',IsTup.new _ _⟩)
  exact⟨.ref h'.objs.size,_,I2,rfl,q _ (I1.hok.fresh (MC _))⟩
 ·obtain⟨its,r',pl,hz⟩:=I.tuple hq;exact call_tuple_same pl ⟨.ref p,H,I,rfl,q⟩
def LQ(K:OZ)(T:String)(x:V)(H:Hp):Prop:=match x with
 |.str _=>T="str"
 |.int _=>T="int"
 |.ref p=>(T="list"/\∃xs,nG K H p xs)\/(T="tuple"/\∃o,K.lookup p=some o/\o.cls=.type "tuple"/\o.dict=none) \/
   (T="dict"/\((∃kvs,H p=some (.dK kvs))\/∃kvs,H p=some (.dT kvs)))\/(T="set"/\∃S n,H p=some (.set S n))
 |_=>False
theorem Gb{pins:List (Qj×Obj)}{σ:St}{H:Hp}{s:Qs}{T:String}{x:V}{v:Qg}(I:Inv X pins σ H s)(r:RelV x v)(ty:LQ X.K T x H):
  s.TypeIs v T/\∀a,v=.ref a->∃ob,s.heap.get? a=some ob/\ob.dict=none:=by
 cases x with
 |str z=>
  obtain⟨t,rfl⟩:=r;cases(show T="str"from ty);exact⟨typeIs_str s z t,λ_ e=>nomatch e⟩
 |int i=>
  obtain⟨t,rfl⟩:=r;cases(show T="int"from ty);exact⟨typeIs_int s i t,λ_ e=>nomatch e⟩
 |ref p=>
  cases r;rcases ty with⟨rfl,xs,hq⟩|⟨rfl,o,hk,hc,hd⟩|⟨rfl,hk⟩|⟨rfl,S,n,hk⟩
  ·obtain⟨its,_,pl,_⟩:=I.list hq;refine⟨pl.isList.typeIs,λa e=>?_⟩;cases e;obtain⟨o,n,e,c,hd,_⟩:=pl;exact⟨o,e,hd⟩
  ·refine⟨⟨o,I.kIn p o hk,hc⟩,λa e=>?_⟩;cases e;exact⟨o,I.kIn _ o hk,hd⟩
  ·have z:∃o,s.heap.get? p=some o/\o.ExactDict:=by
    rcases hk with⟨kvs,hk⟩|⟨kvs,hk⟩
    ·obtain⟨_,_,_,_,o,_,_,e,ex,_⟩:=I.hok p _ hk;exact⟨o,e,ex⟩
    ·obtain⟨_,_,_,_,o,_,_,e,ex,_⟩:=I.hok p _ hk;exact⟨o,e,ex⟩
   obtain⟨o,e,ex⟩:=z;refine⟨⟨o,e,ex.1⟩,λa e2=>?_⟩;cases e2;exact⟨o,e,ex.2.1⟩
  ·obtain⟨o,_,_,_,e,ex,_⟩:=I.hok p _ hk;refine⟨⟨o,e,ex.1⟩,λa e2=>?_⟩;cases e2;exact⟨o,e,ex.2.1⟩
 |_=>exact False.elim ty
def LZ(K:OZ)(T:String)(r:V->List V->Hp->VK->Prop)(to:TE)(t:TA):TE:=λσ H Q=>to σ H λx H1=>LQ K T x H1/\t σ H1 λxs H2=>r x xs H2 Q
variable{o e:Qv}{es:List Qv}{to:TE}{t:TA}{name:Str}{apos cpos:Pos}{T id:String}{r:V->List V->Hp->VK->Prop}
theorem Fl(pa:PlainAttrs T)(slot:Slot T name id)(hty:typeOf (.builtin id)=pure (.type "method_descriptor"))(hm:Ma X id r)(ho:PE X o to)(ha:PA X (e::es) t)
  (hbase:Q8 o name X.env (eval o X.env)=eval o X.env:=by rfl)
  (hfew:((backTo cpos (Qw (e::es) X.env)).all (fun x=>!x.1) && (backToKw cpos (QO [] X.env)).all (fun x=>x.1.isSome)
   && decide ((e::es).length+([]:List Q9).length+(if([]:List Q9).isEmpty then 0 else 1)<30))=true:=by rfl)
  (hline:(apos.endLine==cpos.line)=true:=by rfl) (hs:Qw (e::es) X.env=(false,eval e X.env)::Qw es X.env:=by rfl) (hplain:(backTo cpos (Qw es X.env)).any (·.1)=false:=by rfl):
  PE X (.Call (.Attribute o name apos) (e::es) [] cpos) (LZ X.K T r to t):=by
 intro pins s σ H Q I h;refine wpAny_Call_method_late hbase hfew hline rfl (eJ (ho pins s σ H _ I h) λv s1 ⟨x,H1,I1,r1,ty,q1⟩=>?_);obtain⟨h1,h2⟩:=Gb I1 r1 ty;refine⟨T,id,pa,slot,hty,h1,h2,?_⟩;have hA:=ha cpos pins s1 σ H1 _ I1 q1;rw[hs]at hA ⊢;refine Calls.callWith_builtin (by show(false||(backTo cpos (Qw es X.env)).any (·.1))=false;rw[hplain]<;>rfl) (Calls.evalArgs_plain ?_);exact eJ hA λus s2 ⟨vs,H2,I2,r2,q2⟩=>hm pins s2 σ H2 x vs v us Q I2 r1 r2 q2
end
def K7(X:Cx)(id:String)(r:V->List V->Hp->VK->Prop):Prop:=
 ∀(pins:List (Qj×Obj))(s:Qs)(σ:St)(H:Hp)(x:V)(xs:List V)(v:Qg)(us:List Qg)(Q:VK),Inv X pins σ H s->RelV x v->Vals xs us->r x xs H Q->
  Qu (model X.prog X.w) X.A (call (.builtin id) (v::us)) (EP X pins σ Q) X.xe s
theorem Vals.one:∀{x:V}{us:List Qg},Vals [x] us->∃u,us=[u]/\RelV x u
 |_,_,.cons r .nil=>⟨_,rfl,r⟩
section
variable{X:Cx}{pins:List (Qj×Obj)}{σ:St}{H:Hp}{s:Qs}{l b:Qj}{xs ys zs:List V}
theorem Inv.lset{its its':List Qg}{n:Nat}{f:Array Qg->Array Qg}{t':Nat}(I:Inv X pins σ H s)(hH:H l=some (.lst xs))
  (e:s.heap.get? l=some {cls:=.type "list",data:=.seq its.toArray n}) (hf:f its.toArray=its'.toArray) (hv:Vals ys its') (hz:ys.length<=Qm):
  Inv X pins σ (upd H l (.lst ys)) {s with heap:=s.heap.update l (Obj.mapSeq f),toks:=t'}:=by
 have q:=PySem.IsL.update e f;rw[hf]at q;refine I.write (x:=l) (e:=l) (by rw[hH];exact trivial) (.inl rfl) (λb' u hb hu=>(Heap.get?_update_other s.heap (Obj.mapSeq f) (Ne.symm hb)).trans hu) ⟨_,q⟩ ?_;exact⟨hz,its',_,hv,q⟩
theorem Inv.lnew{its:List Qg}{t':Nat}(I:Inv X pins σ H s)(hv:Vals ys its)(hz:ys.length<=Qm):
  Inv X pins σ (upd H s.heap.objs.size (.lst ys)) {s with heap:=s.heap.push {cls:=.type "list",data:=.seq its.toArray},toks:=t'}:=
 I.laid (λ_ _ q=>PJ _ q) (MC _) ⟨hz,its,0,hv,PK _ rfl⟩
theorem Inv.fresh(I:Inv X pins σ H s):H s.heap.objs.size=none:=I.hok.fresh (MC _)
theorem Inv.lstM(I:Inv X pins σ H s)(hH:H l=some (.lst xs)):xs.length<=Qm/\∃(its:List Qg)(n:Nat),Vals xs its/\xs.length=its.length/\s.heap.get? l=some {cls:=.type "list",data:=.seq its.toArray n}:=by
 obtain⟨z,its,n,r,e⟩:=I.hok l _ hH;exact⟨z,its,n,r,r.length,e⟩
end
section
variable{X:Cx}
def y9:V->List V->Hp->VK->Prop:=λx vs H Q=>∃l xs y,x=.ref l/\vs=[y]/\H l=some (.lst xs)/\xs.length<Qm/\Q .non (upd H l (.lst (xs++[y])))
theorem cY:K7 X "list.append" y9:=by
 intro pins s σ H x vs v us Q I rx rv h;obtain⟨l,xs,y,rfl,rfl,hH,hz,q⟩:=h;cases rx;obtain⟨u,rfl,ru⟩:=rv.one;obtain⟨z,its,n,r,hl,e⟩:=I.lstM hH;refine call_meets F.slot_list_append ⟨_,e,rfl⟩ F.entry_list_append (F.args_list_append_2 _ _) (PySem.list_append l its.toArray n u (by rw[MF];omega)) ⟨e,?_⟩;refine⟨.non,_,I.lset (its':=its++[u]) hH e (by simp) (r.append (.cons ru .nil)) ?_,rfl,q⟩;rw[MR,MY];omega
end
end L2
namespace Att
open PySem PySem.W PySem.Calls PyProof.Rows
theorem pX{P:Params}{h:Ql}:∀(ns:List Int)(vs:List Qg),WellAll P h vs (ns.map WData.int)->IntsAre vs ns:=by
 intro ns
 induction ns with
 |nil=>
  intro vs w;rw[MZ]at w;cases w;exact .nil
 |cons n ns ih=>
  intro vs w;rw[M0]at w;cases w with
  |cons a b=>
   cases a;exact .cons _ _ (ih _ b)
theorem zP{l:OpenLaw}{n:Nat}(hn:l.most=some n){P:Params}{h:Ql}{args:List WData}{vals:List Qg}
  (hpre:l.row.toRowW.claim.pre args=true) (hwl:WellAll P h vals args):
  ∃a vs ns,vals=[Value.ref a]/\args=[WData.list (ns.map WData.int)]/\h.get? a=some {cls:=.type "list",data:=.seq vs.toArray}/\IntsAre vs ns/\ns.length<=n:=by
 have hsh:WShape.hasAll [] args [.list .int]=true:=(pre_splitW hpre).1;have hc:l.pre.holds [] {args:=args}=true:=(pre_splitW hpre).2;obtain⟨d,r,rfl,h1,h2⟩:=hasAllW_cons hsh;obtain rfl:=hasAllW_nil h2;obtain⟨xs,rfl,h3⟩:=hasW_list h1;obtain⟨ns,rfl⟩:=items_int h3;have hlen:ns.length<=n:=by
  unfold OpenLaw.pre at hc;have h4:(WTm.not (.lt (.lit (.int (n:Int))) (.len (.arg 0)))).holds [] {args:=[.list (ns.map .int)]}=true:=by
   have h4:=(holds_andW hc).1;rw[hn]at h4;exact h4
  have h5:=condW_of h4 (w_not (w_lt w_lit (w_len_list (w_arg rfl))));rw[MS]at h5;refine Nat.le_of_not_lt λq=>?_;have q':(n:Int)<((ns.length:Nat):Int):=by omega
  first
   |(rw[decide_eq_true q']at h5;exact absurd h5 (by decide))
   |(simp at h5;omega)
 cases hwl with
 |cons w1 w2=>
  cases w2;cases w1 with
  |list ho hall=>exact⟨_,_,ns,rfl,rfl,ho,pX ns _ hall,hlen⟩
theorem zZ(l:OpenLaw)(args:List WData):l.row.toRowW.claim.post args (.bool true) args=true:=
 postW_of (r:=l.row.toRowW) (X:=(true==true))
  (show WShape.has [] (.bool true) .bool=true by first|rfl|decide|simp[WShape.has,WShape.arms,WShape.armsAll])
  (show(WTm.eq .res (.lit (.bool true))).value [] {args:=args,res:=some (.bool true),after:=args}=some (.bool (true==true))from w_eq_bool (w_res rfl) w_lit) rfl
theorem EZ{l:OpenLaw}{n:Nat}{q:Qi}{loose:List Str}{XP:(Str->Option Qg)->Ql->Prop}{YP:Qh->Ql->Prop}{d:DefRec}
  (hn:l.most=some n) (hdf:d.params.defaults=[])
  (call:∀ (w:Qh) (s₀ s₁:Qs) (mg mb:Str->Option Qg) (fa:Qj) (o:Obj) (pm cd doc:Qg) (a:Qj) (vs:List Qg) (ns:List Int),
   Ground q loose [] XP w s₀ mg mb s₁.heap->YP w s₁.heap->
   s₁.heap.get? fa=some o->o.data=.func (docDef d.name d.params d.body d.scope pm cd doc)->s₁.heap.CodeRec cd d.name->mg d.name=some (.ref fa)->
   s₁.heap.get? a=some {cls:=.type "list",data:=.seq vs.toArray}->IntsAre vs ns->ns.length<=n->s₁.gens=#[]->
   QM (model l.prog w) callerA (.call (.ref fa) ⟨[.ref a],[]⟩) (λr s'=>r=.ok (.ret (.bool true))/\OldK s₁.heap s'.heap/\s'.os=s₁.os/\AllBare s'.gens) s₁):
  WalkO q loose XP YP l.row.toRowW d [] (λf vs=>PySem.call f vs):=by
 intro w s₀ s₁ mg mb G Y fa o pm cd doc dV kV ho hd hcd hD hmg hg args vals as hpre hlay hrd hwl hlo;obtain rfl:dV=.none:=Dflts.none hD hdf;obtain rfl:kV=.none:=Dflts.noKw hD;obtain⟨a,vs,ns,rfl,rfl,hobj,hints,hlen⟩:=zP hn hpre hwl;refine enter_call (codeAny_mono (call w s₀ s₁ mg mb fa o pm cd doc a vs ns G Y ho (fd_plain hd) hcd hmg hobj hints hlen hg) λr s' hq=>?_);obtain⟨rfl,h2,h3,h4⟩:=hq;exact⟨.inl ⟨.bool true,.bool true,[],rfl,λ_=>rfl,.bool true,zZ l _,λ_=>⟨List.Pairwise.nil,λ_ hm=>(nomatch hm)⟩⟩,h2,h3,h4⟩
section
variable{prog:Qi}{w:Qh}{A:Qr}{E:Qg->Qs->Prop}{s:Qs}{K:Frag}
end
end Att
namespace L2
open PySem PySem.Spec PyProof.Rows
theorem uc:∀{vs:List Qg}{ns:List Int},IntsAre vs ns->Vals (ns.map V.int) vs
 |_,_,.nil=>.nil
 |_,_,.cons n t h=>.cons ⟨t,rfl⟩ (uc h)
def inClass(s:Qx)(j:Nat):Qx:=match s with
 |.ClassDef _ _ _ body _ _ _ _ _ _ _=>body.getD j (.Pass ⟨0,0,0,0⟩)
 |_=>.Pass ⟨0,0,0,0⟩
def mz(s:Qx):QU:=match s with
 |.FunctionDef _ a _ _ _ _ _ _ _ _=>a
 |_=>{posonlyargs:=[],args:=[],vararg:=none,kwonlyargs:=[],kw_defaults:=[],kwarg:=none,defaults:=[]}
def fT(s:Qx):List Qx:=match s with
 |.FunctionDef _ _ b _ _ _ _ _ _ _=>b
 |_=>[]
def aA(s:Qx):Qt:=match s with
 |.FunctionDef _ _ _ _ _ _ sc _ _ _=>sc
 |_=>{kind:=.function,names:=[],isGenerator:=false,isCoroutine:=false}
abbrev E0:XK:=λ_ _ _=>False
structure xC(K:OZ)(x qual:Str)(st:Qx)(f:Qj)(fd:QR):Prop where
 ex:∃(oc:Qg)(od:Option Qj)(kV doc pm:Qg)(an:Option Qj)(cdv ct:Qg)(osl:Array (Option Qg)),
  fd=Pk x qual (mz st) (fT st) (aA st) .none kV doc pm an cdv ct/\K.lookup f=some ⟨oc,od,.func fd,osl⟩/\Pl K cdv qual=true
 kp:Ph K (.ref f)=true
section
variable{P:Qi}{w:Qh}{K:OZ}{mg:Str->Option Qg}{base:Ql}
theorem xC.binds{x qual:Str}{st:Qx}{f:Qj}{fd:QR}{ps:List Str}(F:xC K x qual st f fd)
  (h:∀(kV doc pm:Qg)(an:Option Qj)(cdv ct:Qg)(us:List Qg),us.length=ps.length->bindArgs (Pk x qual (mz st) (fT st) (aA st) .none kV doc pm an cdv ct) ⟨us,[]⟩=pure (ps.zip us)):Binds K fd ps []:=by
 obtain⟨oc,od,kV,doc,pm,an,cdv,ct,osl,rfl,lk,hcd⟩:=F.ex;exact .all (h kV doc pm an cdv ct)
theorem ce{x qual:Str}{st:Qx}{f:Qj}{oc:Qg}{od an:Option Qj}{osl:Array (Option Qg)}{kV doc pm cdv ct:Qg}(l:K.lookup f=some ⟨oc,od,.func (Pk x qual (mz st) (fT st) (aA st) .none kV doc pm an cdv ct),osl⟩)
  (c:Pl K cdv qual=true) (k:Ph K (.ref f)=true):xC K x qual st f (Pk x qual (mz st) (fT st) (aA st) .none kV doc pm an cdv ct):=⟨⟨oc,od,kV,doc,pm,an,cdv,ct,osl,rfl,l,c⟩,k⟩
end
section
variable{X:Cx}
theorem pv(i:Nat){x:Str}{pos:Pos}(hN:X.N[i]?=some x:=by rfl)(hv:Gi X.env.scope x:=by first|exact Or.inl rfl|exact Or.inr (Or.inl rfl)|exact Or.inr (Or.inr rfl))(hd:(x==("__debug__":Str))=false:=by decide)
  (hcd:(x==("__classdict__":Str))=false:=by decide):PE X (.Name x pos) (wG i):=FR hN hv hd hcd
end
theorem Bl{A B:Prop}(h:B):if false=true then A else B:=by
 rw[if_neg MG];exact h
theorem Ck{A B:Prop}(h:A):if true=true then A else B:=by
 rw[if_pos rfl];exact h
def bz(H H':Hp):Prop:=∀b o,H b=some o->H' b=some o
theorem bz.refl(H:Hp):bz H H:=λ_ _ h=>h
theorem bz.trans{H H1 H2:Hp}(a:bz H H1)(b:bz H1 H2):bz H H2:=λc o h=>b c o (a c o h)
theorem bz.free{H H':Hp}(e:bz H H'){l:Qj}(h:H' l=Option.none):H l=Option.none:=by
 cases q:H l with
 |none=>rfl
 |some o=>
  rw[e l o q]at h;cases h
theorem bz.seq{K:OZ}{H H':Hp}{a:Qj}{xs:List V}(e:bz H H')(h:nG K H a xs):nG K H' a xs:=by
 rcases h with(h|⟨o,h⟩)|h
 ·exact .inl (.inl (e _ _ h))
 ·exact .inl (.inr ⟨o,e _ _ h⟩)
 ·exact .inr h
section
variable{κ:Type}[DecidableEq κ]
def kR(kvs:List (κ×V))(k:κ):Option V:=(kvs.find? λkv=>decide (kv.1=k)).map (·.2)
def putK(kvs:List (κ×V))(k:κ)(v:V):List (κ×V):=
 if(kvs.any λkv=>decide (kv.1=k))=true then kvs.map (λkv=>if kv.1=k then(kv.1,v)else kv)else kvs++[(k,v)]
theorem lG{p:κ×V}{r:List (κ×V)}{k:κ}(e:p.1=k):kR (p::r) k=some p.2:=by simp[kR,M1,e]
theorem lu{p:κ×V}{r:List (κ×V)}{k:κ}(e:¬p.1=k):kR (p::r) k=kR r k:=by simp[kR,M1,e]
theorem wR(k:κ):∀kvs:List (κ×V),(kvs.any λkv=>decide (kv.1=k))=(kR kvs k).isSome
 |[]=>rfl
 |p::r=>by
  rw[M2];by_cases e:p.1=k
  ·simp only[lG e,decide_eq_true e,M3,Option.isSome_some]
  ·rw[lu e,decide_eq_false e,M4];exact wR k r
theorem kY(kvs:List (κ×V))(k:κ)(v:V):(putK kvs k v).length<=kvs.length+1:=by
 unfold putK;split
 ·rw[MS];omega
 ·rw[MR,M6,M7];omega
theorem wW.isSome_eq{o:Option V}{u:Option Qg}(r:wW o u):o.isSome=u.isSome:=by
 cases o with
 |none=>cases u with
  |none=>rfl
  |some _=>exact(show False from r).elim
 |some _=>cases u with
  |none=>exact(show False from r).elim
  |some _=>rfl
theorem KV.val{kvs:List (κ×V)}{vs:List (κ×Qg)}(r:KV kvs vs)(k:κ):wW (kR kvs k) (valueAt vs k):=by
 unfold KV at r
 induction r with
 |nil=>exact True.intro
 |@cons p q ps qs h t ih=>
  obtain⟨h1,h2⟩:=h;by_cases e:p.1=k
  ·have e':q.1=k:=h1.symm.trans e;have b:valueAt (q::qs) k=some q.2:=(by simp[valueAt,M1,e']);rw[lG e,b];exact h2
  ·have e':¬q.1=k:=λz=>e (h1.trans z);have b:valueAt (q::qs) k=valueAt qs k:=(by simp[valueAt,M1,e']);rw[lu e,b];exact ih
theorem KV.any{kvs:List (κ×V)}{vs:List (κ×Qg)}(r:KV kvs vs)(k:κ):(kvs.any λkv=>decide (kv.1=k))=vs.any λkv=>decide (kv.1=k):=by
 unfold KV at r
 induction r with
 |nil=>rfl
 |cons h t ih=>rw[M2,M2,ih,h.1]
theorem KV.repl{kvs:List (κ×V)}{vs:List (κ×Qg)}(r:KV kvs vs)(k:κ){y:V}{u:Qg}(ry:RelV y u):
  KV (kvs.map λkv=>if kv.1=k then(kv.1,y)else kv) (vs.map λkv=>if kv.1=k then(kv.1,u)else kv):=by
 unfold KV at r ⊢
 induction r with
 |nil=>exact .nil
 |@cons p q ps qs h t ih=>
  rw[M0,M0];refine .cons ?_ ih;obtain⟨h1,h2⟩:=h;by_cases e:p.1=k
  ·rw[if_pos e,if_pos (h1.symm.trans e)];exact⟨h1,ry⟩
  ·rw[if_neg e,if_neg (λz=>e (h1.trans z))];exact⟨h1,h2⟩
theorem KV.put{kvs:List (κ×V)}{vs:List (κ×Qg)}(r:KV kvs vs)(k:κ){y:V}{u:Qg}(ry:RelV y u):KV (putK kvs k y) (stored vs k u):=by
 unfold putK stored;rw[r.any k];by_cases e:(vs.any λkv=>decide (kv.1=k))=true
 ·rw[if_pos e,if_pos e];exact r.repl k ry
 ·rw[if_neg e,if_neg e];exact Paired.snoc r ⟨rfl,ry⟩
theorem KV.keys{kvs:List (κ×V)}{vs:List (κ×Qg)}(r:KV kvs vs):kvs.map (·.1)=vs.map (·.1):=by
 unfold KV at r
 induction r with
 |nil=>rfl
 |cons h t ih=>rw[M0,M0,ih,h.1]
theorem KV.length{kvs:List (κ×V)}{vs:List (κ×Qg)}(r:KV kvs vs):kvs.length=vs.length:=Paired.length r
end
theorem xk{P:Qi}{w:Qh}{k:Key}{u:Qg}(r:RelV (kV k) u):(cM P w).is k u=true:=by
 cases k with
 |inl i=>obtain⟨t,e⟩:=(show∃t,u=Value.int i t from r);subst e;exact xh P w i t
 |inr x=>obtain⟨t,e⟩:=(show∃t,u=Value.str x t from r);subst e;exact vK P w x t
theorem ua{P:Qi}{w:Qh}:∀{ks:List Key}{us:List Qg},Vals (ks.map kV) us->ItemsAre (cM P w) ks us
 |[],_,r=>by rw[MZ]at r;cases r;exact .nil
 |k::ks,_,r=>by
  rw[M0]at r;cases r with
  |cons h t=>exact .cons (xk h) (ua t)
abbrev KT(H:Hp):List (List Key×V)->List (List Key×Qj×Qg)->Prop:=Qk λp q=>p.1=q.1/\H q.2.1=some (.tup (p.1.map kV))/\RelV p.2 q.2.2
theorem KT.val{H:Hp}{kvs:List (List Key×V)}{xs:List (List Key×Qj×Qg)}(r:KT H kvs xs)(k:List Key):wW (kR kvs k) ((atKey xs k).map (·.2)):=by
 induction r with
 |nil=>exact True.intro
 |@cons p q ps qs h t ih=>
  obtain⟨h1,_,h2⟩:=h;by_cases e:p.1=k
  ·have e':q.1=k:=h1.symm.trans e;have b:atKey (q::qs) k=some q.2:=(by simp[atKey,M1,e']);rw[lG e,b];exact h2
  ·have e':¬q.1=k:=λz=>e (h1.trans z);have b:atKey (q::qs) k=atKey qs k:=(by simp[atKey,M1,e']);rw[lu e,b];exact ih
theorem KT.repl{H:Hp}{kvs:List (List Key×V)}{xs:List (List Key×Qj×Qg)}(r:KT H kvs xs)(k:List Key){y:V}{u:Qg}(ry:RelV y u):
  KT H (kvs.map λkv=>if kv.1=k then(kv.1,y)else kv) (xs.map (putAt k u)):=by
 induction r with
 |nil=>exact .nil
 |@cons p q ps qs h t ih=>
  rw[M0,M0];refine .cons ?_ ih;obtain⟨h1,h2,h3⟩:=h;unfold putAt;by_cases e:p.1=k
  ·rw[if_pos e,if_pos (h1.symm.trans e)];exact⟨h1,h2,ry⟩
  ·rw[if_neg e,if_neg (λz=>e (h1.trans z))];exact⟨h1,h2,h3⟩
theorem KT.put{H:Hp}{kvs:List (List Key×V)}{xs:List (List Key×Qj×Qg)}(r:KT H kvs xs)(k:List Key){b:Qj}{y:V}{u:Qg}(hb:H b=some (.tup (k.map kV)))(ry:RelV y u):
  KT H (putK kvs k y) (storedH xs k b u):=by
 have e:(kvs.any λkv=>decide (kv.1=k))=(atKey xs k).isSome:=by
  rw[wR,(r.val k).isSome_eq,M8]
 unfold putK storedH;rw[e];by_cases q:(atKey xs k).isSome=true
 ·rw[if_pos q,if_pos q];exact r.repl k ry
 ·rw[if_neg q,if_neg q];exact Paired.snoc r ⟨rfl,hb,ry⟩
theorem KT.keeps{H H':Hp}{kvs:List (List Key×V)}{xs:List (List Key×Qj×Qg)}(r:KT H kvs xs)(ht:∀b ys,H b=some (.tup ys)->H' b=some (.tup ys)):KT H' kvs xs:=
 Paired.mapP r λ_ _ z=>⟨z.1,ht _ _ z.2.1,z.2.2⟩
section
variable{P:Qi}{w:Qh}{H:Hp}{h:Ql}{a:Qj}
theorem E6{u:HO}(ok:oj P w H h)(e:Rd H a u):cJ P w H h a u:=e.ok ok
theorem wI{kvs:List (Key×V)}(ok:oj P w H h)(e:Rd H a (.dK kvs)):kvs.length<=Qm/\(a==sysModules)=false/\∃vs,KV kvs vs/\h.DictOf (cM P w) a vs:=
 show cJ P w H h a (.dK kvs)from E6 ok e
theorem EJ{kvs:List (Key×V)}(ok:oj P w H h)(e:H a=some (.dK kvs)):kvs.length<=Qm/\(a==sysModules)=false/\∃vs,KV kvs vs/\h.DictOf (cM P w) a vs:=wI ok (.inl e)
theorem pE{ks:List Key}(ok:oj P w H h)(e:H a=some (.tup (ks.map kV))):(tupleKind (cM P w)).is h ks a:=by
 obtain⟨_,its,r,o,h1,h2,n,h3⟩:=(show cJ P w H h a (.tup (ks.map kV))from ok a _ e)
 exact⟨o,its.toArray,n,h1,h2,h3,by simpa using ua r⟩
theorem sR{kvs:List (List Key×V)}(ok:oj P w H h)(e:Rd H a (.dT kvs)):kvs.length<=Qm/\(a==sysModules)=false/\
  ∃xs,KT H kvs xs/\h.DictOfH (tupleKind (cM P w)) a xs:=by
 obtain⟨z,y,xs,r,o,es,ep,h1,h2,h3,h4,h5⟩:=(show cJ P w H h a (.dT kvs)from E6 ok e)
 refine⟨z,y,xs,r,o,es,ep,h1,h2,h3,h4,λx hx=>?_,h5⟩;have all:∀{l:List (List Key×V)}{m:List (List Key×Qj×Qg)},KT H l m->∀x∈m,(tupleKind (cM P w)).is h x.1 x.2.1:=by
  intro l m q
  induction q with
  |nil=>intro x hx;exact nomatch hx
  |@cons p q ps qs hq t ih=>
   intro x hx;rcases List.mem_cons.mp hx with e|hx
   ·subst e;exact pE ok (by rw[<-hq.1];exact hq.2.1)
   ·exact ih x hx
 exact all r x hx
theorem Ib{kvs:List (List Key×V)}(ok:oj P w H h)(e:H a=some (.dT kvs)):kvs.length<=Qm/\(a==sysModules)=false/\
  ∃xs,KT H kvs xs/\h.DictOfH (tupleKind (cM P w)) a xs:=sR ok (.inl e)
end
def A7(H:Hp)(a:Qj)(y:V)(r:Option V):Prop:=
 (∃kvs k,Rd H a (.dK kvs)/\y=kV k/\r=kR kvs k)\/∃kvs k b,Rd H a (.dT kvs)/\y=.ref b/\H b=some (.tup (k.map kV))/\r=kR kvs k
def FH(H:Hp)(a:Qj)(y v:V)(H':Hp):Prop:=
 (∃kvs k,H a=some (.dK kvs)/\y=kV k/\kvs.length<Qm/\H'=upd H a (.dK (putK kvs k v))) \/
 ∃kvs k b,H a=some (.dT kvs)/\y=.ref b/\H b=some (.tup (k.map kV))/\kvs.length<Qm/\H'=upd H a (.dT (putK kvs k v))
theorem A7.t{H:Hp}{a b:Qj}{kvs:List (List Key×V)}{k:List Key}(e:H a=some (.dT kvs))(eb:H b=some (.tup (k.map kV))):A7 H a (.ref b) (kR kvs k):=.inr ⟨kvs,k,b,.inl e,rfl,eb,rfl⟩
theorem FH.k{H:Hp}{a:Qj}{kvs:List (Key×V)}{k:Key}{v:V}(e:H a=some (.dK kvs))(hl:kvs.length<Qm):FH H a (kV k) v (upd H a (.dK (putK kvs k v))):=.inl ⟨kvs,k,e,rfl,hl,rfl⟩
theorem FH.t{H:Hp}{a b:Qj}{kvs:List (List Key×V)}{k:List Key}{v:V}(e:H a=some (.dT kvs))(eb:H b=some (.tup (k.map kV)))(hl:kvs.length<Qm):
  FH H a (.ref b) v (upd H a (.dT (putK kvs k v))):=.inr ⟨kvs,k,b,e,rfl,eb,hl,rfl⟩
section
variable{X:Cx}{pins:List (Qj×Obj)}{σ:St}{H:Hp}{s:Qs}{a:Qj}{y v:V}{u r:Qg}{o:Option V}{A:Qr}{E:Qg->Qs->Prop}
theorem Inv.big(I:Inv X pins σ H s):sysModules<s.heap.objs.size:=by
 have h:Qo<s.heap.objs.size:=(I.mod.glob.keeps I.bk).lt;exact M9 (by decide) h
theorem Af{Q:Qg->Qs->Prop}(hu:A.units+1<QQ)(I:Inv X pins σ H s)(g:A7 H a y (some v))(ry:RelV y u)(h:∀w' s',Inv X pins σ H s'->RelV v w'->Q w' s'):
  Qu (model X.prog X.w) A (getItem (.ref a) u) Q E s:=by
 rcases g with⟨kvs,k,e,ey,l⟩|⟨kvs,k,b,e,ey,eb,l⟩
 ·subst ey;obtain⟨z,hd,vs,rel,dd⟩:=wI I.hok e;obtain⟨w',hw,rw'⟩:=wW.some_of (v:=v) (o:=valueAt vs k) (by rw[l];exact rel.val k);exact wpAny_getItem_of (xk ry) dd.mapOf hw (h w' _ (I.tok _) rw')
 ·subst ey;cases(show u=Value.ref b from ry);obtain⟨z,hd,xs,rel,dd⟩:=sR I.hok e;obtain⟨w',hw,rw'⟩:=wW.some_of (v:=v) (o:=(atKey xs k).map (·.2)) (by rw[l];exact rel.val k);obtain⟨p,hp,hp2⟩:=Option.map_eq_some_iff.mp hw;refine wpAny_getItem_heap (Ra hu) (pE I.hok eb) dd hp ?_;rw[hp2];exact h w' _ (I.tok _) rw'
theorem HV{Q:Qg->Qs->Prop}(hu:A.units+1<QQ)(I:Inv X pins σ H s)(g:A7 H a y o)(ry:RelV y u)(h:∀s',Inv X pins σ H s'->Q (.bool o.isSome) s'):
  Qu (model X.prog X.w) A (QJ .In u (.ref a)) Q E s:=by
 rcases g with⟨kvs,k,e,ey,l⟩|⟨kvs,k,b,e,ey,eb,l⟩
 ·subst ey;obtain⟨z,hd,vs,rel,dd⟩:=wI I.hok e;refine wpAny_in_of (xk ry) hd dd.mapOf ?_;rw[<-(rel.val k).isSome_eq,<-l];exact h _ (I.tok _)
 ·subst ey;cases(show u=Value.ref b from ry);obtain⟨z,hd,xs,rel,dd⟩:=sR I.hok e;refine wpAny_in_heap (Ra hu) (pE I.hok eb) hd dd ?_;have q:=(rel.val k).isSome_eq;rw[M8]at q;rw[<-q,<-l];exact h _ (I.tok _)
theorem zC{Q:Qg->Qs->Prop}(hu:A.units+1<QQ)(I:Inv X pins σ H s)(g:A7 H a y o)(ry:RelV y u)(h:∀s',Inv X pins σ H s'->Q (.bool (!o.isSome)) s'):
  Qu (model X.prog X.w) A (QJ .NotIn u (.ref a)) Q E s:=by
 rcases g with⟨kvs,k,e,ey,l⟩|⟨kvs,k,b,e,ey,eb,l⟩
 ·subst ey;obtain⟨z,hd,vs,rel,dd⟩:=wI I.hok e;refine wpAny_notIn_of (xk ry) hd dd.mapOf ?_;rw[<-(rel.val k).isSome_eq,<-l];exact h _ (I.tok _)
 ·subst ey;cases(show u=Value.ref b from ry);obtain⟨z,hd,xs,rel,dd⟩:=sR I.hok e;refine wpAny_notIn_heap (Ra hu) (pE I.hok eb) hd dd ?_;have q:=(rel.val k).isSome_eq;rw[M8]at q;rw[<-q,<-l];exact h _ (I.tok _)
theorem qf{h':Ql}{t':Nat}{ob:HO}(I:Inv X pins σ H s)(mu:Io (H a))(hs:PH a s.heap h')(he:∃q,h'.get? a=some q)(new:cJ X.prog X.w (upd H a ob) h' a ob):
  Inv X pins σ (upd H a ob) {s with heap:=h',toks:=t'}:=
 I.write (x:=a) (e:=a) mu (.inl rfl) (λb q hb z=>(hs.2 b hb).trans z) he new
theorem Gr{P:Qi}{w:Qh}{H':Hp}{h':Ql}{kvs:List (Key×V)}{vs:List (Key×Qg)}(z:kvs.length<=Qm)(hd:(a==sysModules)=false)(rel:KV kvs vs)(dd:h'.DictOf (cM P w) a vs):
  cJ P w H' h' a (.dK kvs):=⟨z,hd,vs,rel,dd⟩
theorem mD{H':Hp}{Q:Unit->Qs->Prop}(hu:A.units+1<QQ)(I:Inv X pins σ H s)(g:FH H a y v H')(ry:RelV y u)(rv:RelV v r)(h:∀s',Inv X pins σ H' s'->Q () s'):
  Qu (model X.prog X.w) A (setItem (.ref a) u r) Q E s:=by
 rcases g with⟨kvs,k,e,ey,l,eH⟩|⟨kvs,k,b,e,ey,eb,l,eH⟩
 ·subst ey eH;obtain⟨z,hd,vs,rel,dd⟩:=EJ I.hok e;have hz:vs.length<=Qm:=by rw[<-rel.length];exact z
  have hl:(putK kvs k v).length<=Qm:=by have:=kY kvs k v;omega
  refine wpAny_setItem_pairs (hsz:=hz) (xk ry) dd λh' dd' hs=>h _ ?_;have he:∃q,h'.get? a=some q:=let ⟨q,_,_,hq,_⟩:=dd';⟨q,hq⟩
  exact qf I (by rw[e];exact True.intro) hs he (Gr hl hd (rel.put k rv) dd')
 ·subst ey eH;cases(show u=Value.ref b from ry);obtain⟨z,hd,xs,rel,dd⟩:=Ib I.hok e;have hz:xs.length<=Qm:=by rw[<-Paired.length rel];exact z
  have hl:(putK kvs k v).length<=Qm:=by have:=kY kvs k v;omega
  refine wpAny_setItem_heap (hsz:=hz) (Ra hu) (pE I.hok eb) dd λh' dd' hs=>h _ ?_;obtain⟨q,es,ep,hq,h2,h3,h4,_,h5⟩:=dd';refine qf I (by rw[e];exact True.intro) hs ⟨q,hq⟩ ⟨hl,hd,_,(rel.put k eb rv).keeps λc ys ec=>?_,q,es,ep,hq,h2,h3,h4,h5⟩;rw[aM (HN ec e (λz=>nomatch z))];exact ec
end
def DR(i:Qv):Prop:=∀ov iv,subscripted i false ov iv=operate [ov,iv] (getItem ov iv)
theorem Eo{prog:Qi}{w:Qh}{A:Qr}{E:Qg->Qs->Prop}{s:Qs}{env:Env}{value slice:Qv}{pos:Pos}{T id:String}{Q:Qg->Qs->Prop}
  (hl:typeLookup (.type T) "__getitem__"=pure (some (.builtin id))) (hs:DR slice)
  (h:Qu (model prog w) A (eval value env) (λo s₁=>Qu (model prog w) A (eval slice env) (λi s₂=>s₂.TypeIs o T/\Qu (model prog w) A (getItem o i) Q E s₂) E s₁) E s):
  Qu (model prog w) A (eval (.Subscript value slice pos) env) Q E s:=by
 refine Q7 (Qy h (λo s₁ h₁=>Qy h₁ (λi s₂ h₂=>?_) λ_ _ x=>x) λ_ _ x=>x);obtain⟨hT,h₂⟩:=h₂;unfold subscriptTail;refine QD ?_;rw[getitemInPython_of_ne hT.not_modules];refine QD (wpAny_specialOf hT hl ?_);have fin:Qu (model prog w) A (subscripted slice false o i) (λr s₃=>Qu (model prog w) A (letTemporaryGo value o r >>= λ_=>pure r) Q E s₃) E s₂:=by
  rw[hs o i];exact wpAny_operating (Qy h₂ (λr s₃ h₃=>QD (wpAny_letTemporaryGo (QC h₃))) λ_ _ x=>x)
 first
  |exact QC (QD fin)
  |exact QD (QC (QD fin))
  |exact QD fin
theorem vI{X:Cx}{pins:List (Qj×Obj)}{σ:St}{H:Hp}{s:Qs}{a:Qj}{y:V}{o:Option V}(I:Inv X pins σ H s)(g:A7 H a y o):s.TypeIs (.ref a) "dict":=by
 rcases g with⟨kvs,k,e,_,_⟩|⟨kvs,k,b,e,_,_,_⟩
 ·obtain⟨_,_,vs,_,dd⟩:=wI I.hok e;exact dd.typeIs
 ·obtain⟨_,_,xs,_,dd⟩:=sR I.hok e;exact dd.typeIs
def IG(td ty:TE):TE:=λσ H Q=>td σ H λx H1=>ty σ H1 λy H2=>∃a v,x=.ref a/\A7 H2 a y (some v)/\Q v H2
section
variable{X:Cx}{o i e value:Qv}{pos pos' tpos:Pos}{td ty tv:TE}
theorem D6(hu:X.A.units+1<QQ)(ho:PE X o td)(hi:PE X i ty)(hs:DR i):PE X (.Subscript o i pos) (IG td ty):=by
 intro pins s σ H Q I h;refine Eo PySem.F.slot_dict_getitem.lookup hs (eJ (ho pins s σ H _ I h) λu s1 ⟨x,H1,I1,rx,q1⟩=>eJ (hi pins s1 σ H1 _ I1 q1) λiv s2 ⟨y,H2,I2,ry,a,v,ex,g,q2⟩=>?_);subst ex;obtain rfl:u=Value.ref a:=rx;exact⟨vI I2 g,Af hu I2 g ry λw' s3 I3 rw'=>⟨v,H2,I3,rw',q2⟩⟩
end
theorem CT{P:Qi}{w:Qh}{H:Hp}(h:Ql)(hb:sysModules<h.objs.size):cJ P w H (h.push {cls:=.type "dict",data:=.dict #[]}) h.objs.size (.dT []):=
 ⟨MI _,beq_eq_false_iff_ne.mpr (Ne.symm (Mq hb)),[],.nil,_,#[],0,PK _ rfl,⟨rfl,rfl,rfl⟩,rfl,rfl,Nb⟩
def GW:TE:=λ_ H Q=>∀p,H p=none->Q (.ref p) (upd H p (.dT []))
section
variable{X:Cx}{pos:Pos}
theorem Dd:PE X (.Dict [] [] pos) GW:=λpins s σ H Q I h=>
 wpAny_Dict_empty ⟨.ref s.heap.objs.size,_,I.laid (a:=s.heap.objs.size) (o:=.dT []) (t':=s.toks) (λ_ _ q=>PJ _ q) (MC _) (CT s.heap I.big),rfl,h _ (I.hok.fresh (MC _))⟩
end
def dz(cells:List (Str×Qj)):List (Str×QT)->List (Str×Qj)->List (Str×Qj)
 |[],acc=>acc
 |(n,k)::r,acc=>if k=.free then(match cells.lookup n with|some c=>dz cells r ((n,c)::acc)|none=>dz cells r acc)else dz cells r acc
theorem lQ{cells:List (Str×Qj)}:∀(names:List (Str×QT))(acc:List (Str×Qj)),(∀x c,acc.lookup x=some c->cells.lookup x=some c)->
  ∀x c,(dz cells names acc).lookup x=some c->cells.lookup x=some c
 |[],acc,h=>h
 |(n,k)::r,acc,h=>by
  unfold dz;by_cases hk:k=.free
  ·rw[if_pos hk];cases e:cells.lookup n with
   |none=>exact lQ r acc h
   |some c0=>
    refine lQ r _ λx c q=>?_;rw[Nc]at q;cases hx:x==n with
    |true=>
     rw[hx]at q;have e1:x=n:=(by simpa using hx);cases q;rw[e1];exact e
    |false=>rw[hx]at q;exact h x c q
  ·rw[if_neg hk];exact lQ r acc h
theorem ki{cells:List (Str×Qj)}:∀(names:List (Str×QT))(acc:List (Str×Qj))(x:Str),(acc.lookup x).isSome=true->((dz cells names acc).lookup x).isSome=true
 |[],acc,x,h=>h
 |(n,k)::r,acc,x,h=>by
  unfold dz;by_cases hk:k=.free
  ·rw[if_pos hk];cases e:cells.lookup n with
   |none=>exact ki r acc x h
   |some c0=>
    refine ki r _ x ?_;rw[Nc];cases hx:x==n with
    |true=>rfl
    |false=>exact h
  ·rw[if_neg hk];exact ki r acc x h
theorem ju{cells:List (Str×Qj)}:∀(names:List (Str×QT))(acc:List (Str×Qj))(x:Str),(x,NameKind.free)∈names->(∃c,cells.lookup x=some c)->((dz cells names acc).lookup x).isSome=true
 |[],acc,x,h,_=>absurd h (by simp)
 |(n,k)::r,acc,x,h,hc=>by
  unfold dz;rcases List.mem_cons.mp h with e|h
  ·cases e;rw[if_pos rfl];obtain⟨c,e⟩:=hc;rw[e];refine ki r _ _ ?_;rw[Nc];simp
  ·by_cases hk:k=.free
   ·rw[if_pos hk];cases e:cells.lookup n with
    |none=>exact ju r acc x h hc
    |some c0=>exact ju r _ x h hc
   ·rw[if_neg hk];exact ju r acc x h hc
theorem oh{scope:Qt}{env:Env}(h:∀p∈scope.names,p.2=.free->∃c,env.cells.lookup p.1=some c):closureFor scope env=pure (dz env.cells scope.names []):=by
 have go:∀(names:List (Str×QT))(acc:List (Str×Qj)),(∀p∈names,p.2=.free->∃c,env.cells.lookup p.1=some c)->
   (forIn names acc λx cs=>(match x with|(name,kind)=>if(kind==NameKind.free)=true then do let a<-cellOf env name;pure (ForInStep.yield ((name,a)::cs))else pure (ForInStep.yield cs):Sem (ForInStep (List (Str×Qj)))))=pure (dz env.cells names acc):=by
  intro names
  induction names with
  |nil=>intro acc _;rfl
  |cons p r ih=>
   intro acc hp;obtain⟨n,k⟩:=p;rw[Nf];by_cases hk:k=.free
   ·obtain⟨c,e⟩:=hp (n,k) Mv hk;subst hk;have e2:cellOf env n=pure c:=(by unfold cellOf;rw[e]);simp only[beq_self_eq_true,if_true,e2,pure_bind];rw[ih _ λq hq=>hp q (Mw _ hq)]
    conv=>rhs;rw[dz]
    simp[e]
   ·have hb:(k==NameKind.free)=false:=(by simpa using hk);simp only[hb,Ng,if_false,pure_bind];rw[ih _ λq hq=>hp q (Mw _ hq)]
    conv=>rhs;rw[dz,if_neg hk]
 have:=go scope.names [] h
 unfold closureFor;simp only[];rw[this];rfl
def cF(X:Cx)(scope:Qt)(N:List Str)(cl:List (Str×Qj))(C:Qj)(fp:List Qj)(s:Qs)(H:Hp)(E:Qg->Qs->Prop):Cx where
 prog:=X.prog
 w:=X.w
 K:=X.K
 mg:=X.mg
 base:=X.base
 A:=X.A
 N:=N
 s₀:=s
 H₀:=H
 env:=compEnvC scope cl C X.env
 outer:=X.stack
 stack:=X.stack
 ex:=fp
 fn:=λ_=>false
 calm:=X.calm
 pn:=[]
 xe:=E
def u9(XN N:List Str)(names:List (Str×QT))(ix:List (Option Nat)):Bool:=
 decide (ix.length=N.length)&&(N.zip ix).all λp=>match p.2 with
  |some i=>decide (XN[i]?=some p.1)&&decide (names.lookup p.1=some .free)
  |none=>true
def inBlock(ix:List (Option Nat))(σ:St):St:=ix.map λo=>match o with
 |some i=>(σ[i]?).getD none
 |none=>none
theorem u9.len{XN N:List Str}{names:List (Str×QT)}{ix:List (Option Nat)}(h:u9 XN N names ix=true):ix.length=N.length:=by
 unfold u9 at h;rw[MV]at h;exact of_decide_eq_true h.1
theorem u9.at_{XN N:List Str}{names:List (Str×QT)}{ix:List (Option Nat)}(h:u9 XN N names ix=true){j i:Nat}{x:Str}(h1:N[j]?=some x)(h2:ix[j]?=some (some i)):XN[i]?=some x/\names.lookup x=some .free:=by
 unfold u9 at h;rw[MV]at h;have hm:(x,some i)∈N.zip ix:=by
  have e:(N.zip ix)[j]?=some (x,some i):=by rw[List.getElem?_zip_eq_some];exact⟨h1,h2⟩
  exact MQ e
 have q:=List.all_eq_true.mp h.2 _ hm;simp only[MV]at q;exact⟨of_decide_eq_true q.1,of_decide_eq_true q.2⟩
theorem lg{env:Env}:∀{names:List (Str×QT)}{x:Str}{k:QT},
  (names.map λ(n,k)=>if(k==NameKind.free&&env.scope.kind==.function&&env.kindOf n==some .cell)then(n,NameKind.cell)else(n,k)).lookup x=some k->
  names.lookup x=some k\/(names.lookup x=some .free/\k=.cell)
 |[],_,_,h=>by simp at h
 |(n,k0)::r,x,k,h=>by
  have ih:=@lg env r x k
  replace h:List.lookup x ((if(k0==NameKind.free&&env.scope.kind==.function&&env.kindOf n==some .cell)=true then(n,NameKind.cell)else(n,k0))::(r.map λ(n,k)=>if(k==NameKind.free&&env.scope.kind==.function&&env.kindOf n==some .cell)then(n,NameKind.cell)else(n,k)))=some k:=h
  by_cases hc:(k0==NameKind.free&&env.scope.kind==.function&&env.kindOf n==some .cell)=true
  ·rw[if_pos hc]at h;have hk0:k0=.free:=by
    simp only[MV]at hc
    simpa using hc.1.1
   cases hx:x==n with
   |true=>
    simp only[Nc,hx]at h;simp only[Nc,hx];cases h;exact .inr ⟨by rw[hk0],rfl⟩
   |false=>
    simp only[Nc,hx]at h ⊢;exact ih h
  ·rw[if_neg hc]at h;cases hx:x==n with
   |true=>
    simp only[Nc,hx]at h ⊢;exact .inl h
   |false=>
    simp only[Nc,hx]at h ⊢;exact ih h
def Gf(X:Cx)(ifs:List Qv)(t:TT):Prop:=
 ∀(pins:List (Qj×Obj))(s:Qs)(σ:St)(H:Hp)(Q:Bool->Hp->Prop),Inv X pins σ H s->t σ H Q->
  Qu (model X.prog X.w) X.A (forIn ifs true λc r=>if r=true then do let ok<-isTrue c X.env (eval c X.env);pure (ForInStep.yield ok)else pure (ForInStep.yield r)) (TP X pins σ Q) X.xe s
def HD:TT:=λ_ H Q=>Q true H
theorem Ds{X:Cx}:Gf X [] HD:=λ_ _ _ H _ I h=>wpAny_tests_nil ⟨H,I,h⟩
theorem DX{X:Cx}{c:Qv}{t:TT}(h:PT X c t):Gf X [c] t:=λpins s σ H Q I q=>wpAny_tests_one (h pins s σ H Q I q)
theorem lA{prog:Qi}{w:Qh}{A:Qr}{R:Result->Qs->Prop}{s:Qs}{elt target iter:Qv}{ifs:List Qv}{scope:Qt}{pos:Pos}{it acc:Qg}{env:Env}(I:Nat->Qs->Prop)
  (turn:∀ n s,I n s->Qu (model prog w) A (pyNext it) (fun r s₁=>match r with
   |none=>R (.ok .next) s₁
   |some v=>Qu (model prog w) A (letOwnedTupleGo target it v) (λ_ s₁'=>Qu (model prog w) A (assign target env v) (λ_ s₂=>
     Qu (model prog w) A (forIn ifs true λc r=>if r=true then do let ok<-isTrue c env (eval c env);pure (ForInStep.yield ok)else pure (ForInStep.yield r)) (λok s₃=>
      if ok=true then Qu (model prog w) A (eval elt env) (λx s₄=>
       Qu (model prog w) A (call (.builtin "list.append") [acc,x]) (λ_ s₅=>∃m,m<n/\I m s₅) (notedBy (model prog w) A env λe s'=>R (.error e) s') s₄) (notedBy (model prog w) A env λe s'=>R (.error e) s') s₃
      else∃m,m<n/\I m s₃) (notedBy (model prog w) A env λe s'=>R (.error e) s') s₂) (notedBy (model prog w) A env λe s'=>R (.error e) s') s₁') (notedBy (model prog w) A env λe s'=>R (.error e) s') s₁) (notedBy (model prog w) A env λe s'=>R (.error e) s') s)
  (n:Nat) (h:I n s):
  QM (model prog w) A (.compLoop (.ListComp elt [⟨target,iter,ifs,0⟩] scope pos) 0 it acc env) R s:=by
 refine codeAny_loop rfl I (λn s hI=>?_) n h;show Qu _ A ((compTurn (.ListComp elt [⟨target,iter,ifs,0⟩] scope pos) 0 it acc env).onRaise (λx=>do noteFrame x env;theTreesLotGoes x)) _ _ s;refine wpAny_noted ?_;rw[compTurn_list];refine QD (Rb (QD (Qy (turn n s hI) (λr s₁ h₁=>?_) λ_ _ h'=>h')));cases r with
 |none=>exact QC h₁
 |some v=>
  refine QD (Qy h₁ (λ_ s₁' h₁'=>?_) λ_ _ h'=>h');refine QD (Qy h₁' (λ_ s₂ h₂=>QD (Qy h₂ (λok s₃ h₃=>?_) λ_ _ h'=>h')) λ_ _ h'=>h');cases ok with
  |false=>exact QC ⟨rfl,h₃⟩
  |true=>
   exact QD (QD (Qy h₃ (λx s₄ h₄=>QD (Qy h₄ (λ_ s₅ h₅=>QC (QC ⟨rfl,h₅⟩)) λ_ _ h'=>h')) λ_ _ h'=>h'))
def JL(wi:TI)(g:TG)(tc:TT)(te:TE)(ix:List (Option Nat)):TE:=λσ H Q=>
 wi σ H λJ H1=>∀D,H1 D=none->∃W:Nat->Nat->St->Hp->Prop,(∃m,W 0 m (inBlock ix σ) (upd H1 D (.lst [])))/\
  ∀i m σ' H',W i m σ' H'->(J.stop i H'/\Q (.ref D) H') \/
   (J.go i H'/\∀ x H2,J.yld i H' x H2->g x σ' H2 fun σ3 H3=>tc σ3 H3 fun b H4 =>
    if b=true then te σ3 H4 λv H5=>∃acc,H5 D=some (.lst acc)/\acc.length<Qm/\∃m',m'<m/\W (i+1) m' σ3 (upd H5 D (.lst (acc++[v])))
    else∃m',m'<m/\W (i+1) m' σ3 H4)
section
variable{X:Cx}{elt tg iter:Qv}{ifs:List Qv}{scope:Qt}{pos:Pos}{N:List Str}{ix:List (Option Nat)}{wi:TI}{g:TG}{tc:TT}{te:TE}
theorem rG{pins:List (Qj×Obj)}{σ:St}{s2:Qs}{H2:Hp}{it:Qj}{fp:List Qj}{tn:Nat->Ql->Prop}{J:It}{Q:V->Hp->Prop}{E:Qg->Qs->Prop}{RR:Qg->Qj->Result->Qs->Prop}
    (hc:X.calm=true) (hcell:∀y∈scope.names,y.2≠.cell) (hkind:scope.kind=.function)
    (hfr:∀y∈scope.names,y.2=.free->X.env.scope.names.lookup y.1=some .cell\/X.env.scope.names.lookup y.1=some .free)
    (hix:u9 X.N N scope.names ix=true)
    (hb:∀cl C fp s H E,PG (cF X scope N cl C fp s H E) tg g/\Gf (cF X scope N cl C fp s H E) ifs tc/\PE (cF X scope N cl C fp s H E) elt te)
    (I2:Inv X pins σ H2 s2) (T:Turn X.prog X.w X.K tg J fp it tn) (st2:tn 0 s2.heap) (f2:∀b∈fp,sr X pins H2 b)
    (q:∀ D,H2 D=none->∃ W:Nat->Nat->St->Hp->Prop,(∃ m,W 0 m (inBlock ix σ) (upd H2 D (.lst []))) /\
      ∀i m σ' H',W i m σ' H'->(J.stop i H'/\Q (.ref D) H') \/
        (J.go i H'/\∀ x H3,J.yld i H' x H3->g x σ' H3 fun σ3 H3=>tc σ3 H3 fun b H4 =>
          if b=true then te σ3 H4 λv H5=>∃acc,H5 D=some (.lst acc)/\acc.length<Qm/\∃m',m'<m/\W (i+1) m' σ3 (upd H5 D (.lst (acc++[v])))
          else∃m',m'<m/\W (i+1) m' σ3 H4))
    (hRR:∀D C H' s' m,H2 D=none->s2.heap.objs.size<=C->H' C=none->s'.heap.Ns C m->(∀h',PH C s'.heap h'->Inv X pins σ H' {s' with heap:=h'})->Q (.ref D) H'->RR (.ref D) C (.ok .next) s'):
    Qu (model X.prog X.w) X.A (newList []) (λacc s₃=>Qu (model X.prog X.w) X.A (newFunctionEnv scope X.env.globals (dz X.env.cells scope.names []) [] X.env.qual none .none (some X.env)) (λcenv s₄=>
      QM (model X.prog X.w) X.A (.compStart (.ListComp elt [⟨tg,iter,ifs,0⟩] scope pos) 0 (.ref it) acc {cenv with scope:=relabel scope X.env}) (RR acc cenv.locals) s₄) E s₃) E s2:=by
  refine Q5 (wpAny_newFunctionEnv hcell (by intro y hy;simp at hy) (λh₁ hns₁ hsb₁=>?_) hkind);dsimp only at hns₁ hsb₁ ⊢;have I3:Inv X pins σ (upd H2 s2.heap.objs.size (.lst [])) {s2 with heap:=s2.heap.push {cls:=.type "list",dict:=none,data:=.seq ([]:List Qg).toArray},toks:=s2.toks}:=I2.lnew (its:=[]) (t':=s2.toks) .nil (MI _);generalize hs3:({s2 with heap:=s2.heap.push {cls:=.type "list",dict:=none,data:=.seq ([]:List Qg).toArray},toks:=s2.toks}:Qs)=s3 at I3;have eh3:s2.heap.push {cls:=.type "list",dict:=none,data:=.seq ([]:List Qg).toArray}=s3.heap:=by rw[<-hs3]
  rw[eh3]at hns₁ hsb₁ ⊢;have hC3:s3.heap.objs.size=s2.heap.objs.size+1:=by rw[<-eh3,PL]
  have hD:H2 s2.heap.objs.size=none:=I2.fresh;obtain⟨W,⟨m0,w0⟩,turn⟩:=q s2.heap.objs.size hD;generalize hH3:upd H2 s2.heap.objs.size (.lst [])=H3 at I3 w0;have old:∀b o,s3.heap.get? b=some o->h₁.get? b=some o:=λb o e=>hsb₁.extBut b o (Mq (PD e)) (PJ _ e);have fpH3:∀b∈fp,H3 b=none:=λb hb'=>by
    rw[<-hH3,aM]
    ·exact(f2 b hb').1
    · obtain⟨o,e,_⟩:=T.obj _ _ st2 b hb'
      exact Mq (PD e)
  have fpLt:∀b∈fp,b<s3.heap.objs.size:=λb hb'=>by
    obtain⟨o,e,_⟩:=T.obj _ _ st2 b hb';rw[hC3];exact Nh (PD e)
  have hfree:∀p∈scope.names,p.2=.free->∃c,X.env.cells.lookup p.1=some c:=λp hp hk=>I2.ok.has p.1 (hfr p hp hk);have csub:∀x c,(dz X.env.cells scope.names []).lookup x=some c->X.env.cells.lookup x=some c:=lQ scope.names [] (λx c e=>by simp at e);have names':∀x k,(relabel scope X.env).names.lookup x=some k->scope.names.lookup x=some k\/(scope.names.lookup x=some .free/\k=.cell):=λx k h=>lg h;have ok:(cF X scope N (dz X.env.cells scope.names []) s3.heap.objs.size fp s3 H3 (notedBy (model X.prog X.w) X.A (compEnvC scope (dz X.env.cells scope.names []) s3.heap.objs.size X.env) λe s'=>RR (.ref s2.heap.objs.size) s3.heap.objs.size (.error e) s')).Ok:=
    { mod:=I3.ok.mod
      kind:=hkind
      glob:=I3.ok.glob
      blt:=I3.ok.blt
      above:=MC _
      inj:=λx y c h1 h2=>I3.ok.inj x y c (csub x c h1) (csub y c h2)
      has:=λx hx=>by
        have fr:scope.names.lookup x=some .free:=by
          rcases hx with hx|hx
          · rcases names' x .cell hx with h|⟨h,_⟩
            ·exact absurd rfl (hcell _ (PySem.mem_of_lookup h))
            ·exact h
          · rcases names' x .free hx with h|⟨_,h⟩
            ·exact h
            ·cases h
        have hm:=PySem.mem_of_lookup fr;exact Option.isSome_iff_exists.mp (ju scope.names [] x hm (hfree _ hm rfl))
      cab:=λx c h _=>by cases h
      hd:=I3.ok.hd
      frames:=I3.ok.frames
      stk:=.inl rfl
      exf:=λb hb'=>⟨Mq (fpLt b hb'),λx c e=>(f2 b hb').2.2.2.2.1 x c (csub x c e)⟩
      bs:=λb o e=>I3.bs b o e
      bsz:=Mr I3.ok.bsz I3.sz
      noex:=λb o e hb'=>by
        obtain⟨_,_,_,h4,_⟩:=f2 b hb';rcases h4 with h4|h4
        ·exact I3.ok.noex b o e h4
        ·exact absurd (Mo (PD (I3.ok.bs b o e).1) h4) (Mp _)
      exfs:=λb hb' hs=>by
        obtain⟨_,h2,h3,_⟩:=f2 b hb';rcases List.mem_cons.mp (I3.stkSub b hs)with e|e
        ·exact h2 e
        ·exact h3 e
      funs:=I3.stack
      frf:=λb hb'=>I3.stkFree b hb'}
  generalize hE:(notedBy (model X.prog X.w) X.A (compEnvC scope (dz X.env.cells scope.names []) s3.heap.objs.size X.env) λe s'=>RR (.ref s2.heap.objs.size) s3.heap.objs.size (.error e) s')=E' at ok;obtain⟨hg,htc,hel⟩:=hb (dz X.env.cells scope.names []) s3.heap.objs.size fp s3 H3 E';have Istart:∀tk,Inv (cF X scope N (dz X.env.cells scope.names []) s3.heap.objs.size fp s3 H3 E') [] (inBlock ix σ) H3 {s3 with heap:=h₁,toks:=tk}:=λtk=>by
    refine⟨ok,rfl,I3.bare,Un.kept old,⟨_,hns₁,λj x v e1 e2 _=>?_⟩,λx c e=>?_,I3.fresh,λx c e=>I3.freeC x c (csub x c e),λp hp=>absurd (show p∈([]:List (Qj×Obj))from hp) (by simp),I3.hok.kept old,?_⟩
    ·
      unfold inBlock at e2;rw[MP]at e2;cases q1:ix[j]? with
      |none=>rw[q1]at e2;simp at e2
      |some o=>
        rw[q1]at e2;cases o with
        |none=>simp at e2
        |some i=>
          obtain⟨n1,n2⟩:=u9.at_ hix e1 q1;have e2':(σ[i]?).getD none=some v:=Option.some.inj e2;have e3:σ[i]?=some (some v):=by
            cases q2:σ[i]? with
            |none=>rw[q2]at e2';simp at e2'
            |some o2=>rw[q2]at e2';simpa using e2'
          obtain⟨m,hn,hl⟩:=I3.loc;have hm:=PySem.mem_of_lookup n2;have hk:=hfr _ hm rfl;have hv:Gi X.env.scope x:=by
            rcases hk with hk|hk
            ·exact .inr (.inl hk)
            ·exact .inr (.inr hk)
          obtain⟨u,r,l⟩:=hl i x v n1 e3 hv;refine⟨u,r,.inr ?_⟩;rcases l with⟨kl,_⟩|⟨_,c,hcx,hcell'⟩
          · have kl':X.env.scope.names.lookup x=some .local:=kl
            rcases hk with hk|hk
            ·rw[kl']at hk;cases hk
            ·rw[kl']at hk;cases hk
          · obtain⟨c',hc'⟩:=Option.isSome_iff_exists.mp (ju (cells:=X.env.cells) scope.names [] x hm ⟨c,hcx⟩)
            have ec:c'=c:=Option.some.inj ((csub x c' hc').symm.trans hcx);subst ec;refine⟨?_,c',hc',?_⟩
            ·
              show(relabel scope X.env).names.lookup x=some .cell\/(relabel scope X.env).names.lookup x=some .free;have gen:∀names:List (Str×QT),names.lookup x=some .free->((names.map λ(n,k)=>if(k==NameKind.free&&X.env.scope.kind==.function&&X.env.kindOf n==some .cell)then(n,NameKind.cell)else(n,k)).lookup x=some .cell\/(names.map λ(n,k)=>if(k==NameKind.free&&X.env.scope.kind==.function&&X.env.kindOf n==some .cell)then(n,NameKind.cell)else(n,k)).lookup x=some .free):=by
                intro names
                induction names with
                |nil=>intro h;simp at h
                |cons p r ih=>
                  obtain⟨n,k⟩:=p;intro h;show List.lookup x ((if(k==NameKind.free&&X.env.scope.kind==.function&&X.env.kindOf n==some .cell)=true then(n,NameKind.cell)else(n,k))::_)=_\/List.lookup x ((if(k==NameKind.free&&X.env.scope.kind==.function&&X.env.kindOf n==some .cell)=true then(n,NameKind.cell)else(n,k))::_)=_;cases hx:x==n with
                  |true=>
                    simp only[Nc,hx]at h;by_cases hcc:(k==NameKind.free&&X.env.scope.kind==.function&&X.env.kindOf n==some .cell)=true
                    ·rw[if_pos hcc];left;simp only[Nc,hx]
                    ·rw[if_neg hcc];right;simp only[Nc,hx];exact h
                  |false=>
                    simp only[Nc,hx]at h;by_cases hcc:(k==NameKind.free&&X.env.scope.kind==.function&&X.env.kindOf n==some .cell)=true
                    ·rw[if_pos hcc];simp only[Nc,hx];exact ih h
                    ·rw[if_neg hcc];simp only[Nc,hx];exact ih h
              exact gen scope.names n2
            ·exact hcell'.keeps old
    · obtain⟨v,z⟩:=I3.cell x c (csub x c e)
      exact⟨v,z.keeps old⟩
    · show(inBlock ix σ).length=N.length
      unfold inBlock;rw[MS];exact u9.len hix
  have stat:∀{H':Hp},(∀b∈fp,H' b=none)->∀b∈fp,sr (cF X scope N (dz X.env.cells scope.names []) s3.heap.objs.size fp s3 H3 E') [] H' b:=λhn b hb'=>
    ⟨hn b hb',(ok.exf b hb').1,ok.exfs b hb',.inl hb',(ok.exf b hb').2,λp hp=>absurd (show p∈([]:List (Qj×Obj))from hp) (by simp)⟩
  have tn1:tn 0 h₁:=T.keep _ _ _ st2 λb hb' o e=>old b o (by rw[<-eh3];exact PJ _ e);have loop:∀tk,QM (model X.prog X.w) X.A (.compLoop (.ListComp elt [⟨tg,iter,ifs,0⟩] scope pos) 0 (.ref it) (.ref s2.heap.objs.size) (compEnvC scope (dz X.env.cells scope.names []) s3.heap.objs.size X.env))
      (RR (.ref s2.heap.objs.size) s3.heap.objs.size) {s3 with heap:=h₁,toks:=tk}:=by
    intro tk;refine lA (λn s'=>∃i σ' H',Inv (cF X scope N (dz X.env.cells scope.names []) s3.heap.objs.size fp s3 H3 E') [] σ' H' s'/\tn i s'.heap/\(∀b∈fp,H' b=none)/\W i n σ' H') ?_ m0 ⟨0,_,_,Istart tk,tn1,fpH3,w0⟩;rintro n s5 ⟨i,σ5,H5,I5,st5,fr5,w5⟩;rw[hE];rcases turn i n σ5 H5 w5 with⟨stop,qn⟩|⟨go,step⟩
    · refine eJ (T.done (cF X scope N (dz X.env.cells scope.names []) s3.heap.objs.size fp s3 H3 E') rfl rfl rfl hc i [] s5 σ5 H5 _ I5 (stat fr5) st5 stop) λr s6 ⟨hr,I6⟩=>?_
      subst hr;obtain⟨m6,hn6,_⟩:=I6.loc;refine hRR s2.heap.objs.size s3.heap.objs.size H5 s6 m6 hD (by rw[hC3];exact Nat.le_succ _) I6.free hn6 (λh' sb=>?_) qn;have ne:∀b o,s3.heap.get? b=some o->b≠s3.heap.objs.size:=λb o e=>Mq (PD e);refine I3.call' (s':={s6 with heap:=h'}) (H':=H5) (ch:=fp) I6.os ⟨λb o e n hb' hx=>?_,λb o e n hb' hx=>?_,λb o e n hx=>?_,λb o e hx=>?_,I6.base.tups,I6.base.frzs,I6.base.tbls⟩ ?_ I6.bare λb hb'=>?_
      ·exact(sb.2 b (ne b o e)).trans (I6.base.keep b o e n hb' hx)
      · obtain⟨sl,e1⟩:=I6.base.slot b o e n hb' hx
        exact⟨sl,(sb.2 b (ne b o e)).trans e1⟩
      ·exact I6.base.free b o e n hx
      · obtain⟨o',e1⟩:=I6.base.there b o e hx
        exact⟨o',(sb.2 b (ne b o e)).trans e1⟩
      · intro b ob e
        have hfreeC:H5 s3.heap.objs.size=none:=I6.free;refine(I6.hok b ob e).stay (λc v hcc q=>(sb.2 c ?_).trans q) (λ_ q=>q) λ_ _ q=>q;rintro rfl;rcases hcc with rfl|hcc
        ·rw[hfreeC]at e;cases e
        ·rw[hfreeC]at hcc;cases hcc
      · obtain⟨_,h2',_,h4',h5',h6'⟩:=f2 b hb'
        exact⟨h4',h2',h5',h6'⟩
    · refine eJ (T.item (cF X scope N (dz X.env.cells scope.names []) s3.heap.objs.size fp s3 H3 E') rfl rfl rfl hc i [] s5 σ5 H5 _ I5 (stat fr5) st5 go) λr s6 ⟨u,hr,h6⟩=>?_
      subst hr;refine eJ h6 λ_ s7 ⟨x,H7,I7,r7,y7,st7,fr7⟩=>?_;have I7':=I7.pinned (stat fr7) (T.obj _ _ st7);refine eJ (hg _ s7 σ5 H7 x u _ I7' r7 (step x H7 y7)) λ_ s8 ⟨σ8,H8,I8,q8⟩=>?_;refine eJ (htc _ s8 σ8 H8 _ I8 q8) λb s9 ⟨H9,I9,q9⟩=>?_;have again:∀{σ':St}{H':Hp}{s':Qs}{m':Nat},Inv (cF X scope N (dz X.env.cells scope.names []) s3.heap.objs.size fp s3 H3 E') ([]++rL fp s7.heap) σ' H' s'->m'<n->W (i+1) m' σ' H'->
          ∃m,m<n/\∃i σ' H',Inv (cF X scope N (dz X.env.cells scope.names []) s3.heap.objs.size fp s3 H3 E') [] σ' H' s'/\tn i s'.heap/\(∀b∈fp,H' b=none)/\W i m σ' H':=λ{σ' H' s' m'} I' hm w'=>by
        refine⟨m',hm,i+1,σ',H',I'.unpinned,T.keep _ _ _ st7 λb hb' o e=>(I'.pin (b,o) (MD _ (MD _ (j5 hb' e)))).1,λb hb'=>?_,w'⟩;obtain⟨o,e,d⟩:=T.obj _ _ st7 b hb';exact(I'.pin (b,o) (MD _ (MD _ (j5 hb' e)))).2.1
      cases b with
      |false=>
        rw[if_neg MG]at q9 ⊢;obtain⟨m',hm,w9⟩:=q9;exact again I9 hm w9
      |true=>
        rw[if_pos rfl]at q9 ⊢;refine eJ (hel _ s9 σ8 H9 _ I9 q9) λy s10 ⟨v,H10,I10,r10,q10⟩=>?_;obtain⟨acc,ha,hz,m',hm,w10⟩:=q10;refine eJ (cY _ s10 σ8 H10 (.ref s2.heap.objs.size) [v] (.ref s2.heap.objs.size) [y] (λ_ H'=>H'=upd H10 s2.heap.objs.size (.lst (acc++[v]))) I10 rfl (.cons r10 .nil) ⟨_,acc,v,rfl,rfl,ha,hz,rfl⟩) λ_ s11 ⟨_,H11,I11,_,e11⟩=>?_;subst e11;exact again I11 hm w10
  subst hs3;exact codeAny_compStart_list (loop _) (T.self _ 0 _ _ _ tn1 (loop _))
theorem ED(hc:X.calm=true)(hcell:∀y∈scope.names,y.2≠.cell)(hkind:scope.kind=.function)(hnames:∀y∈scope.names,y.2=.local->scope.names.lookup y.1=some .local)
  (hfr:∀y∈scope.names,y.2=.free->X.env.scope.names.lookup y.1=some .cell\/X.env.scope.names.lookup y.1=some .free)
  (hix:u9 X.N N scope.names ix=true) (hi:PI X tg iter wi)
  (hb:∀cl C fp s H E,PG (cF X scope N cl C fp s H E) tg g/\Gf (cF X scope N cl C fp s H E) ifs tc/\PE (cF X scope N cl C fp s H E) elt te)
  (hs:∀x,QG iter X.env x=pure x:=by intro _;rfl):PE X (.ListComp elt [⟨tg,iter,ifs,0⟩] scope pos) (JL wi g tc te ix):=by
 intro pins s σ H Q I h;rw[eval_ListComp];refine Rc (use:=none) rfl hs (oh λp hp hk=>I.ok.has p.1 (hfr p hp hk)) hkind hnames (eJ (hi pins s σ H _ I h) λv s1 h1=>eJ h1 λitv s2 h2=>?_);obtain⟨it,fp,tn,J,H2,e,I2,T,st2,f2,q⟩:=h2;subst e;refine rG (Q:=Q) (RR:=λacc C=>compPost (model X.prog X.w) X.A X.xe none (EP X pins σ Q) acc C) hc hcell hkind hfr hix hb I2 T st2 f2 q ?_;intro D C H' s' m _ _ _ hn hI hq;exact⟨m,hn,λh' sb=>⟨.ref D,H',hI h' sb,rfl,hq⟩⟩
theorem Fm{i:Nat}{y:Str}{py spos:Pos}(hN:X.N.Nodup)(hi':X.N[i]?=some y)(hx:Loc X.env.scope y)
  (hc:X.calm=true) (hcell:∀y∈scope.names,y.2≠.cell) (hkind:scope.kind=.function) (hnames:∀y∈scope.names,y.2=.local->scope.names.lookup y.1=some .local)
  (hfr:∀y∈scope.names,y.2=.free->X.env.scope.names.lookup y.1=some .cell\/X.env.scope.names.lookup y.1=some .free)
  (hix:u9 X.N N scope.names ix=true) (hi:PI X tg iter wi)
  (hb:∀cl C fp s H E,PG (cF X scope N cl C fp s H E) tg g/\Gf (cF X scope N cl C fp s H E) ifs tc/\PE (cF X scope N cl C fp s H E) elt te)
  (hsw:swapsWith (.ListComp elt [⟨tg,iter,ifs,0⟩] scope pos) (some (.Name y py)) spos.line X.env=pure true:=by rfl)
  (hs:∀x,QG iter X.env x=pure x:=by intro _;rfl)
  (hf:X.fn y=true\/X.env.scope.names.lookup y=some .local:=by first|exact .inl rfl|exact .inr rfl|assumption):
  PS X (.Assign [.Name y py] (.ListComp elt [⟨tg,iter,ifs,0⟩] scope pos) spos) (Bt (JL wi g tc te ix) (uj i)):=by
 intro pins s σ H D0 I h;rw[exec_Assign_Name_used _ _ _ _ hsw];refine QD (Rb (QD ?_));show Qu _ X.A (do let _<-comprehension (.ListComp elt [⟨tg,iter,ifs,0⟩] scope pos) scope X.env _ (newList []) false (eval iter X.env) (some (assign (.Name y py) X.env))) _ _ s;refine QD (eJ (Rc (use:=some (assign (.Name y py) X.env)) (Q:=λ_ s'=>SP X pins D0 .next s') rfl hs (oh λp hp hk=>I.ok.has p.1 (hfr p hp hk)) hkind hnames
  (eJ (hi pins s σ H _ I h) λv s1 h1=>eJ h1 λitv s2 h2=>?_)) λ_ s' hq=>QC (QC hq))
 obtain⟨it,fp,tn,J,H2,e,I2,T,st2,f2,q⟩:=h2;subst e;refine rG (Q:=λv H'=>uj i v σ H' D0.nx) (RR:=λacc C=>compPost (model X.prog X.w) X.A X.xe (some (assign (.Name y py) X.env)) (λ_ s'=>SP X pins D0 .next s') acc C) hc hcell hkind hfr hix hb I2 T st2 f2 q ?_;intro D C H' s' m _ hC hfree hn hI hq;have I':Inv X pins σ H' s':=hI s'.heap (.refl ..);have nL:C≠X.env.locals:=MA (Mo I2.lt hC);have nC:∀x c,X.env.cells.lookup x=some c->c≠C:=λx c e z=>by
  obtain⟨v,q⟩:=I2.cell x c e;exact absurd (Mo q.lt (by rw[z];exact hC)) (Mp _)
 have nP:∀p∈X.pn++pins,p.1≠C:=λp hp z=>absurd (Mo (PD (I2.pin p hp).1) (by rw[z];exact hC)) (Mp _);show Qu _ X.A (assign (.Name y py) X.env (.ref D)) _ _ _;refine wpAny_assign_Name (ug I' hN hi' hx (v:=.ref D) rfl (λs'' I'' ch=>?_) hf);obtain⟨a,sb,ha⟩:=ch;have hCa:C≠a:=by
  rcases ha with ha|ha
  ·rw[ha];exact nL
  ·exact Ne.symm (nC y a ha)
 refine⟨m,hn.sameBut sb hCa,λh' sb'=>⟨_,H',?_,hq⟩⟩;exact I''.turned (t':=s''.toks) (λb o hb' e=>(sb'.2 b hb').trans e) hfree nL (.inr (Mr I2.sz hC)) nC nP
end
end L2
namespace TG
open PySem PySem.Spec L2
inductive D where
 |non|bl (b:Bool)|int (i:Int)|str (x:Str)|tup (xs:List D)|lst (xs:List D)
 |dct (ks vs:List D)|obj (c:Str) (fs:List Str) (vs:List D)|exc (c:Str) (fs:List Str) (vs:List D)
def bF:Key->D
 |.inl i=>.int i
 |.inr x=>.str x
def clsAt(K:OZ)(c:Str)(C:Qj):Prop:=Pm K Qo c=some (some (.ref C))
def J8(C a:Qj)(dx:Option Qj):(Qj->Prop)->Ql->Prop:=λ_ h=>∃o,h.get? a=some o/\o.cls=.ref C/\o.dict=dx
mutual
def cO(K:OZ)(H:Hp):D->V->Prop
 |.non,v=>v=.non
 |.bl b,v=>v=.bl b
 |.int i,v=>v=.int i
 |.str x,v=>v=.str x
 |.tup xs,v=>∃a vs,v=.ref a/\H a=some (.tup vs)/\bh K H xs vs
 |.lst xs,v=>∃a vs,v=.ref a/\nG K H a vs/\bh K H xs vs
 |.dct ks ds,v=>∃a vs,v=.ref a/\bh K H ds vs/\((∃kvs:List (Key×V),H a=some (.dK kvs)/\ks=kvs.map (λp=>bF p.1)/\vs=kvs.map (·.2)) \/
   (∃kvs:List (List Key×V),H a=some (.dT kvs)/\ks=kvs.map (λp=>.tup (p.1.map bF))/\vs=kvs.map (·.2)) \/
   ∃(kvs:List (List Key×V))(o:Obj),H a=some (.frz o (.dT kvs))/\ks=.non::kvs.map (λp=>.tup (p.1.map bF))/\vs=kvs.map (·.2))
 |.obj c fs ds,v=>∃a vs,v=.ref a/\bh K H ds vs/\fs.length=vs.length/\∃C dx,clsAt K c C/\H a=some (.ins C dx (fs.zip vs))
 |.exc c fs ds,v=>∃a vs,v=.ref a/\bh K H ds vs/\fs.length=vs.length/\∃C dx,clsAt K c C/\H a=some (.ext (J8 C a dx))/\(fs=[]\/∃d,dx=some d/\H d=some (.xd (fs.zip vs)))
def bh(K:OZ)(H:Hp):List D->List V->Prop
 |[],vs=>vs=[]
 |x::xs,vs=>∃v r,vs=v::r/\cO K H x v/\bh K H xs r
end
theorem A6{K:OZ}{H H':Hp}{a:Qj}{xs:List V}(e:bz H H')(h:oF K H a xs):oF K H' a xs:=by
 rcases h with(h|⟨o,h⟩)|h
 ·exact .inl (.inl (e _ _ h))
 ·exact .inl (.inr ⟨o,e _ _ h⟩)
 ·exact .inr h
theorem bZ{K:OZ}{H H':Hp}{a:Qj}{xs:List V}(e:bz H H')(h:H a=some (.tup xs)):oF K H' a xs:=oF.of (e _ _ h)
mutual
theorem cO.mono{K:OZ}{H H':Hp}(e:bz H H'):∀{d:D}{v:V},cO K H d v->cO K H' d v
 |.non,_,h=>by unfold cO at h ⊢;exact h
 |.bl _,_,h=>by unfold cO at h ⊢;exact h
 |.int _,_,h=>by unfold cO at h ⊢;exact h
 |.str _,_,h=>by unfold cO at h ⊢;exact h
 |.tup xs,_,h=>by
  unfold cO at h ⊢;obtain⟨a,vs,e1,h1,h2⟩:=h;exact⟨a,vs,e1,e _ _ h1,bh.mono e h2⟩
 |.lst xs,_,h=>by
  unfold cO at h ⊢;obtain⟨a,vs,e1,h1,h2⟩:=h;exact⟨a,vs,e1,e.seq h1,bh.mono e h2⟩
 |.dct _ ds,_,h=>by
  unfold cO at h ⊢;obtain⟨a,vs,e1,h1,h2⟩:=h;refine⟨a,vs,e1,bh.mono e h1,?_⟩;rcases h2 with⟨kvs,h2,h3⟩|⟨kvs,h2,h3⟩|⟨kvs,o,h2,h3⟩
  ·exact .inl ⟨kvs,e _ _ h2,h3⟩
  ·exact .inr (.inl ⟨kvs,e _ _ h2,h3⟩)
  ·exact .inr (.inr ⟨kvs,o,e _ _ h2,h3⟩)
 |.obj _ _ ds,_,h=>by
  unfold cO at h ⊢;obtain⟨a,vs,e1,h1,h2,C,dx,h3,h4⟩:=h;exact⟨a,vs,e1,bh.mono e h1,h2,C,dx,h3,e _ _ h4⟩
 |.exc _ _ ds,_,h=>by
  unfold cO at h ⊢;obtain⟨a,vs,e1,h1,h2,C,dx,h3,h4,h5⟩:=h;exact⟨a,vs,e1,bh.mono e h1,h2,C,dx,h3,e _ _ h4,h5.imp id λ⟨d,q1,q2⟩=>⟨d,q1,e _ _ q2⟩⟩
theorem bh.mono{K:OZ}{H H':Hp}(e:bz H H'):∀{ds:List D}{vs:List V},bh K H ds vs->bh K H' ds vs
 |[],_,h=>by unfold bh at h ⊢;exact h
 |x::xs,_,h=>by
  unfold bh at h ⊢;obtain⟨v,r,e1,h1,h2⟩:=h;exact⟨v,r,e1,cO.mono e h1,bh.mono e h2⟩
end
section
variable{K:OZ}{H:Hp}
theorem j6{v:V}:cO K H .non v↔v=.non:=by unfold cO;rfl
theorem kT{b:Bool}{v:V}:cO K H (.bl b) v↔v=.bl b:=by unfold cO;rfl
theorem eZ{i:Int}{v:V}:cO K H (.int i) v↔v=.int i:=by unfold cO;rfl
theorem e9{x:Str}{v:V}:cO K H (.str x) v↔v=.str x:=by unfold cO;rfl
theorem cD{xs:List D}{v:V}:cO K H (.tup xs) v↔∃a vs,v=.ref a/\H a=some (.tup vs)/\bh K H xs vs:=by unfold cO;rfl
theorem cE{xs:List D}{v:V}:cO K H (.lst xs) v↔∃a vs,v=.ref a/\nG K H a vs/\bh K H xs vs:=by unfold cO;rfl
theorem JA{ks ds : List D}{v : V}: cO K H (.dct ks ds) v ↔ ∃ a vs, v = .ref a /\ bh K H ds vs /\ ((∃ kvs : List (Key × V), H a = some (.dK kvs) /\ ks = kvs.map (fun p => bF p.1) /\ vs = kvs.map (·.2)) \/
      (∃kvs:List (List Key×V),H a=some (.dT kvs)/\ks=kvs.map (λp=>.tup (p.1.map bF))/\vs=kvs.map (·.2)) \/
      ∃(kvs:List (List Key×V))(o:Obj),H a=some (.frz o (.dT kvs))/\ks=.non::kvs.map (λp=>.tup (p.1.map bF))/\vs=kvs.map (·.2)):=by unfold cO;rfl
theorem Jy{c:Str}{fs:List Str}{ds:List D}{v:V}:cO K H (.obj c fs ds) v↔∃a vs,v=.ref a/\bh K H ds vs/\fs.length=vs.length/\∃C dx,clsAt K c C/\H a=some (.ins C dx (fs.zip vs)):=by unfold cO;rfl
theorem cU{vs:List V}:bh K H [] vs↔vs=[]:=by unfold bh;rfl
theorem bE{x:D}{xs:List D}{vs:List V}:bh K H (x::xs) vs↔∃v r,vs=v::r/\cO K H x v/\bh K H xs r:=by conv=>lhs;unfold bh
theorem bh.length:∀{ds:List D}{vs:List V},bh K H ds vs->ds.length=vs.length
 |[],_,h=>by rw[cU]at h;rw[h];rfl
 |_::xs,_,h=>by
  rw[bE]at h;obtain⟨v,r,e,_,h⟩:=h;rw[e,M6,M6,bh.length h]
theorem bh.get:∀{ds:List D}{vs:List V}{i:Nat}{d:D},bh K H ds vs->ds[i]?=some d->∃v,vs[i]?=some v/\cO K H d v
 |[],_,_,_,_,e=>by simp at e
 |x::xs,_,0,d,h,e=>by
  rw[bE]at h;obtain⟨v,r,rfl,h1,_⟩:=h;simp at e;subst e;exact⟨v,rfl,h1⟩
 |x::xs,_,i+1,d,h,e=>by
  rw[bE]at h;obtain⟨v,r,rfl,_,h2⟩:=h;obtain⟨w,e1,e2⟩:=bh.get (i:=i) h2 (by simpa using e);exact⟨w,by simpa using e1,e2⟩
theorem bh.append:∀{ds es:List D}{vs ws:List V},bh K H ds vs->bh K H es ws->bh K H (ds++es) (vs++ws)
 |[],_,_,_,h,h'=>by rw[cU]at h;subst h;exact h'
 |x::xs,_,_,_,h,h'=>by
  rw[bE]at h;obtain⟨v,r,rfl,h1,h2⟩:=h;rw[Ni,bE];exact⟨v,_,rfl,h1,bh.append h2 h'⟩
theorem bh.take:∀{ds:List D}{vs:List V}(n:Nat),bh K H ds vs->bh K H (ds.take n) (vs.take n)
 |_,_,0,_=>by rw[Nj,Nj,cU]
 |[],_,_+1,h=>by rw[cU]at h;subst h;rw[List.take_nil,List.take_nil,cU]
 |x::xs,_,n+1,h=>by
  rw[bE]at h;obtain⟨v,r,rfl,h1,h2⟩:=h;rw[Nk,Nk,bE];exact⟨v,_,rfl,h1,bh.take n h2⟩
theorem bh.drop:∀{ds:List D}{vs:List V}(n:Nat),bh K H ds vs->bh K H (ds.drop n) (vs.drop n)
 |_,_,0,h=>by rw[Nm,Nm];exact h
 |[],_,_+1,h=>by rw[cU]at h;subst h;rw[List.drop_nil,List.drop_nil,cU]
 |x::xs,_,n+1,h=>by
  rw[bE]at h;obtain⟨v,r,rfl,h1,h2⟩:=h;rw[Nn,Nn];exact bh.drop n h2
theorem bh.snoc{ds:List D}{vs:List V}{d:D}{v:V}(h:bh K H ds vs)(h':cO K H d v):bh K H (ds++[d]) (vs++[v]):=
 h.append (bE.mpr ⟨v,[],rfl,h',cU.mpr rfl⟩)
theorem bh.one{d:D}{vs:List V}(h:bh K H [d] vs):∃v,vs=[v]/\cO K H d v:=by
 rw[bE]at h;obtain⟨v,r,rfl,h1,h2⟩:=h;rw[cU]at h2;subst h2;exact⟨v,rfl,h1⟩
theorem bh.two{d e:D}{vs:List V}(h:bh K H [d,e] vs):∃v w,vs=[v,w]/\cO K H d v/\cO K H e w:=by
 rw[bE]at h;obtain⟨v,r,rfl,h1,h2⟩:=h;obtain⟨w,rfl,h3⟩:=h2.one;exact⟨v,w,rfl,h1,h3⟩
theorem tP:∀ns:List Int,bh K H (ns.map D.int) (ns.map V.int)
 |[]=>cU.mpr rfl
 |n::ns=>bE.mpr ⟨_,_,rfl,eZ.mpr rfl,tP ns⟩
end
def hid(H:Hp)(O:List Qj):Hp:=λb=>if b∈O then none else H b
theorem aI(H:Hp)(O:List Qj):bz (hid H O) H:=λb o h=>by
 unfold hid at h;split at h
 ·cases h
 ·exact h
theorem cw{H H':Hp}{O:List Qj}(e:bz H H'):bz (hid H O) (hid H' O):=λb o h=>by
 unfold hid at h ⊢;by_cases hb:b∈O
 ·rw[if_pos hb]at h;cases h
 ·rw[if_neg hb]at h ⊢;exact e b o h
theorem iP{H:Hp}{O O':List Qj}(s:∀a∈O,a∈O'):bz (hid H O') (hid H O):=λb o h=>by
 unfold hid at h ⊢;by_cases hb:b∈O'
 ·rw[if_pos hb]at h;cases h
 ·rw[if_neg hb]at h;rw[if_neg λz=>hb (s b z)];exact h
theorem DT(H:Hp):hid H []=H:=by funext b;unfold hid;simp
theorem uY{H:Hp}{O:List Qj}{p:Qj}{o:HO}(h:H p=none):bz (hid H O) (hid (upd H p o) O):=λb u q=>by
 unfold hid at q ⊢;by_cases hb:b∈O
 ·rw[if_pos hb]at q;cases q
 ·rw[if_neg hb]at q ⊢;rw[aM (bd q h)];exact q
theorem bW{H:Hp}{p:Qj}(h:H p=none)(o:HO):bz H (upd H p o):=λb u q=>by rw[aM (bd q h)];exact q
theorem js{H:Hp}{O:List Qj}{p:Qj}(h:p∉O):hid H O p=H p:=by unfold hid;rw[if_neg h]
theorem jj{H:Hp}{O:List Qj}{p:Qj}{o:HO}(h:p∈O):bz (hid H O) (hid (upd H p o) O):=λb u q=>by
 unfold hid at q ⊢;by_cases hb:b∈O
 ·rw[if_pos hb]at q;cases q
 ·rw[if_neg hb]at q ⊢;rw[aM (λz=>hb (by rw[z];exact h))];exact q
inductive S where
 |val (d:D)|own (d:D)|nest (d:D)
abbrev aw:=List (Option S)
def sE:HO->Prop
 |.lst _=>True
 |.dK _=>True
 |.dT _=>True
 |_=>False
class bc where
 tab:Hp->Prop
 same:∀{H H':Hp},tab H->bz H H'->tab H'
 own:∀{H:Hp}{p:Qj}{o o':HO},tab H->H p=some o->sE o->tab (upd H p o')
variable[bc]
def dQ(H:Hp)(O:List Qj):Prop:=bc.tab H/\∀a∈O,∃o,H a=some o/\sE o
theorem dQ.not{H:Hp}{O:List Qj}(h:dQ H O){p:Qj}(n:H p=none):p∉O:=λz=>by
 obtain⟨vs,e,_⟩:=h.2 p z;rw[n]at e;cases e
theorem dQ.same{H H':Hp}{O:List Qj}(h:dQ H O)(e:bz H H'):dQ H' O:=⟨bc.same h.1 e,λa ha=>let ⟨vs,q,m⟩:=h.2 a ha;⟨vs,e _ _ q,m⟩⟩
theorem dQ.upd{H:Hp}{O:List Qj}{p:Qj}{o:HO}(h:dQ H O)(hp:p∈O)(m:sE o):dQ (L2.upd H p o) O:=⟨let ⟨_,q,r⟩:=h.2 p hp;bc.own h.1 q r,λa ha=>by
 by_cases z:a=p
 ·rw[z];exact⟨o,aZ,m⟩
 ·obtain⟨u,q,r⟩:=h.2 a ha;exact⟨u,by rw[aM z];exact q,r⟩⟩
theorem dQ.cons{H:Hp}{O:List Qj}{p:Qj}{o:HO}(h:dQ H O)(hp:H p=some o)(m:sE o):dQ H (p::O):=⟨h.1,λa ha=>by
 rcases List.mem_cons.mp ha with z|z
 ·rw[z];exact⟨o,hp,m⟩
 ·exact h.2 a z⟩
def eE(K:OZ)(H:Hp)(O:List Qj)(a:Qj)(d:D):Prop:=∃o vs,H a=some o/\match d with
 |.lst xs=>o=.lst vs/\bh K (hid H O) xs vs
 |.dct ks ds=>bh K (hid H O) ds vs/\((∃kvs:List (Key×V),o=.dK kvs/\ks=kvs.map (λp=>bF p.1)/\vs=kvs.map (·.2)) \/
   ∃kvs:List (List Key×V),o=.dT kvs/\ks=kvs.map (λp=>.tup (p.1.map bF))/\vs=kvs.map (·.2))
 |_=>False
theorem eE.mono{K:OZ}{H H':Hp}{O O':List Qj}{a:Qj}{d:D}(h:eE K H O a d)(e:H a=H' a)(s:bz (hid H O) (hid H' O')):eE K H' O' a d:=by
 obtain⟨o,vs,h1,h2⟩:=h;refine⟨o,vs,by rw[<-e];exact h1,?_⟩;cases d with
 |lst xs=>exact⟨h2.1,h2.2.mono s⟩
 |dct ks ds=>exact⟨h2.1.mono s,h2.2⟩
 |_=>exact h2
theorem eE.some{K:OZ}{H:Hp}{O:List Qj}{a:Qj}{d:D}(h:eE K H O a d):∃o,H a=some o:=let ⟨o,_,e,_⟩:=h;⟨o,e⟩
theorem eE.den{K:OZ}{H:Hp}{O O':List Qj}{a:Qj}{d:D}(h:eE K H O a d)(s:bz (hid H O) (hid H O'))(ha:a∉O'):cO K (hid H O') d (.ref a):=by
 obtain⟨o,vs,h1,h2⟩:=h;have h1':hid H O' a=Option.some o:=by rw[js ha];exact h1
 cases d with
 |lst xs=>
  obtain⟨e,g⟩:=h2;subst e;exact cE.mpr ⟨a,vs,rfl,nG.of h1',g.mono s⟩
 |dct ks ds=>
  obtain⟨g,q⟩:=h2;refine JA.mpr ⟨a,vs,rfl,g.mono s,?_⟩;rcases q with⟨kvs,e,q⟩|⟨kvs,e,q⟩
  ·subst e;exact .inl ⟨kvs,h1',q⟩
  ·subst e;exact .inr (.inl ⟨kvs,h1',q⟩)
 |_=>exact h2.elim
structure dU(K:OZ)(O:List Qj)(H:Hp)(ρ:aw)(σ:St):Prop where
 val:∀(i:Nat) d,ρ[i]?=some (some (.val d))->∃v,σ[i]?=some (some v)/\cO K (hid H O) d v
 own:∀(i:Nat) d,ρ[i]?=some (some (.own d))->∃a,σ[i]?=some (some (.ref a))/\a∈O/\eE K H O a d
 one:∀(i j:Nat) xs ys a,ρ[i]?=some (some (.own xs))->ρ[j]?=some (some (.own ys))->σ[i]?=some (some (.ref a))->σ[j]?=some (some (.ref a))->i=j
 all:dQ H O
theorem qq{H H':Hp}(e:bz H H'){a:Qj}{o:HO}(h:H a=some o):H a=H' a:=by rw[h,e _ _ h]
theorem dU.same{K:OZ}{O:List Qj}{H H':Hp}{ρ:aw}{σ:St}(h:dU K O H ρ σ)(e:bz H H'):dU K O H' ρ σ:=
  ⟨fun i d q=>let ⟨v,a,b⟩:=h.val i d q; ⟨v,a,b.mono (cw e)⟩,
   λi xs q=>let ⟨a,q1,q2,q3⟩:=h.own i xs q;⟨a,q1,q2,q3.mono (let ⟨_,z⟩:=q3.some;qq e z) (cw e)⟩,h.one,h.all.same e⟩
structure Ex where
 c:Str
 fs:List Str
 vs:List D
abbrev R(α:Type):=Except (Option Ex) α
abbrev un{α:Type}:R α:=.error none
def rO{α:Type}:Option α->R α
 |some a=>.ok a
 |none=>.error none
def Je(K:OZ)(Hd:Hp)(x:Ex)(C:Qj)(dx:Option Qj):Prop:=clsAt K x.c C/\∃ws,bh K Hd x.vs ws/\x.fs.length=ws.length/\(x.fs=[]\/∃d,dx=some d/\Hd d=some (.xd (x.fs.zip ws)))
theorem Je.mono{K:OZ}{H H':Hp}{x:Ex}{C:Qj}{dx:Option Qj}(h:Je K H x C dx)(e:bz H H'):Je K H' x C dx:=by
 obtain⟨h1,ws,h2,h3,h4⟩:=h;exact⟨h1,ws,h2.mono e,h3,h4.imp id λ⟨d,q1,q2⟩=>⟨d,q1,e _ _ q2⟩⟩
end TG
namespace TG
open PySem PySem.Spec L2
variable[bc]
open PyProof.Rows (AllBare)
theorem Gp{P:Qi}{w:Qh}{H:Hp}{h:Ql}{a:Qj}{o:HO}(x:cJ P w H h a o):∃u,h.get? a=some u:=by
 cases o with
 |lst xs=>obtain⟨_,_,_,_,e⟩:=x;exact⟨_,e⟩
 |tup xs=>obtain⟨_,_,_,o,e,_⟩:=x;exact⟨_,e⟩
 |dK kvs=>obtain⟨_,_,_,_,o,_,_,e,_⟩:=x;exact⟨_,e⟩
 |dT kvs=>obtain⟨_,_,_,_,o,_,_,e,_⟩:=x;exact⟨_,e⟩
 |set S n=>obtain⟨o,_,_,_,e,_⟩:=x;exact⟨_,e⟩
 |ins C dx fs=>obtain⟨_,_,_,e,_⟩:=x;exact⟨_,e⟩
 |own y=>exact x
 |xd fs=>obtain⟨_,⟨_,_,_,e,_⟩,_⟩:=x;exact⟨_,e⟩
 |rng lo hi=>obtain⟨_,_,_,e⟩:=x;exact⟨_,e⟩
 |frz ob u=>obtain⟨e,_⟩:=x;exact⟨_,e⟩
 |tbl ps=>exact⟨_,(show h.get? a=some _ from x)⟩
 |met f y=>exact⟨_,(show h.get? a=some _ from x)⟩
 |ext φ=>obtain⟨_,e,_⟩:=x;exact e
def qW(X:Cx)(H:Hp)(b:Qj):Prop:=((∃o,X.s₀.heap.get? b=some o)/\b∉X.ex)\/H b≠none\/(∃o,(b,o)∈X.pn)\/∃x,X.env.cells.lookup x=some b
def Md(B:Ql)(e:Qj)(cls a0:Qg)(h:Ql):Prop:=h.TracedW B e cls a0\/∃oe vs,h.get? e=some oe/\oe.cls=cls/\oe.data=.fields vs/\vs[1]?=some .none/\vs[0]?=some a0
def HW(X:Cx)(H:Hp)(s:Qs)(e C:Qj):Prop:=∃B a0,B.StaysIn s.heap/\B.get? e=none/\s.heap.FunFrames B X.stack/\Md B e (.ref C) a0 s.heap/\∀b o,s.heap.get? b=some o->qW X H b->b∉frs X.stack->B.get? b=some o
def Mm(X:Cx)(H:Hp)(O:List Qj)(s:Qs)(u:Qg)(x:Ex):Prop:=∃e C dx,u=.ref e/\Je X.K (hid H O) x C dx/\HW X H s e C
def nF(P:Qi)(w:Qh):Bc:=λouter H s E u s'=>∃e C dx H' B a0,u=.ref e/\s'.os=s.os/\AllBare s'.gens/\Un (frs outer) [] H H' s.heap s'.heap/\oj P w H' s'.heap/\Heap.FlyingW B outer e (.ref C) a0 s'.heap/\
 (∀b o,s'.heap.get? b=some o->((∃o',s.heap.get? b=some o')\/H' b≠none)->b∉frs outer->B.get? b=some o)/\E (.ref C) dx H'
def Kh(K:OZ)(H:Hp)(O:List Qj)(x:Ex)(E:XK):Prop:=∀C dx H',bz H H'->Je K (hid H' O) x C dx->E (.ref C) dx H'
def Ho(X:Cx)(σ:St)(O:List Qj)(H:Hp)(x:Ex):Prop:=∀pins s u H',Inv X pins σ H' s->bz H H'->Mm X H' O s u x->X.xe u s
theorem Ho.mono{X:Cx}{σ:St}{O:List Qj}{H H':Hp}{x:Ex}(h:Ho X σ O H x)(s:bz H H'):Ho X σ O H' x:=λpins st u H2 I s2 f=>h pins st u H2 I (s.trans s2) f
def zz(X:Cx)(O:List Qj)(H:Hp)(x:Ex):XK:=λu dx H'=>∃C,u=.ref C/\bz H H'/\Je X.K (hid H' O) x C dx
def lL(CX:Bc)(X:Cx)(σ:St)(E:XK):Prop:=∀(pins:List (Qj×Obj))(H:Hp)(s:Qs)(e:Qg)(s':Qs),Inv X pins σ H s->CX X.stack H s E e s'->X.xe e s'
theorem zH{X:Cx}{σ:St}{O:List Qj}{H:Hp}{x:Ex}(h:Ho X σ O H x):lL (nF X.prog X.w) X σ (zz X O H x):=by
 rintro pins H1 s u s' I ⟨e,C,dx,H',B,a0,rfl,os,bare,un,hok,⟨f1,f2,f3,f4⟩,kp,C',eC,sm,hd⟩;cases eC;have I':Inv X pins σ H' s':=I.call' os un hok bare (ch:=[]) λb z=>absurd z (by simp);refine h pins s' _ H' I' sm ⟨e,C,dx,rfl,hd,B,a0,f1,f2,f3,.inl f4,λb o eb hb nf=>kp b o eb ?_ nf⟩;rcases hb with⟨⟨o',hb⟩,nx⟩|hb|⟨o',hb⟩|⟨y,hb⟩
 ·exact .inl (I.base.there b o' hb nx)
 ·exact .inr hb
 ·exact .inl ⟨_,(I.pin _ (Mx _ hb)).1⟩
 ·obtain⟨v,o,q,_⟩:=I.cell y b hb;exact .inl ⟨o,q⟩
theorem zG{X:Cx}{σ:St}:lL (nF X.prog X.w) X σ E0:=λ_ _ _ _ _ _ ⟨_,_,_,_,_,_,_,_,_,_,_,_,_,z⟩=>z.elim
theorem v8{X:Cx}{O:List Qj}{H:Hp}{x:Ex}:Kh X.K H O x (zz X O H x):=λC dx H' s e=>⟨C,rfl,s,e⟩
section
variable{X:Cx}{pins:List (Qj×Obj)}{σ:St}{H:Hp}{s:Qs}{h':Ql}
theorem Dt(I:Inv X pins σ H s)(k:∀b o,s.heap.get? b=some o->qW X H b->b∉frs X.stack->h'.get? b=some o):oj X.prog X.w H h':=λa ob ea=>
 (I.hok a ob ea).stay (λb u hb q=>by
  have hn:H b≠none:=by
   rcases hb with e|e
   ·rw[e,ea];intro z;cases z
   ·rw[e];intro z;cases z
  exact k b u q (.inr (.inl hn)) λhf=>hn (I.stkFree b hf)) (λ_ q=>q) λ_ _ q=>q
theorem tq(I:Inv X pins σ H s)(us:s.heap.UpToSlots h'){b:Qj}{o:Obj}(hb:b∈frs X.stack)(e:s.heap.get? b=some o):∃sl,h'.get? b=some {o with slots:=sl}:=by
 obtain⟨_,o',e',nf⟩:=I.stack.mem hb;rw[e]at e';cases e';exact us b o e nf
theorem Gh(I:Inv X pins σ H s)(hx:X.ex=[])(hst:X.stack=X.env::X.outer)(hf:X.env.frame=some X.env.locals)(us:s.heap.UpToSlots h')(k:∀b o,s.heap.get? b=some o->qW X H b->b∉frs X.stack->h'.get? b=some o):
  Un (frs X.outer) [] X.H₀ H X.s₀.heap h':=by
 have U:=I.base;rw[hx]at U;have fr:frs X.stack=X.env.locals::frs X.outer:=by rw[hst];show List.filterMap _ (_::_)=_;rw[Mu,hf];rfl
 have nl:∀b o,X.s₀.heap.get? b=some o->b≠X.env.locals:=λb o q z=>by
  have h1:=PD q;have h2:=I.ok.above;rw[z]at h1;exact Mp _ (Mo h1 h2)
 have nfr:∀b o,X.s₀.heap.get? b=some o->b∉frs X.outer->b∉frs X.stack:=λb o q nb z=>by
  rw[fr]at z;rcases List.mem_cons.mp z with z|z
  ·exact nl b o q z
  ·exact nb z
 refine⟨λb o q n nb _=>k b o (U.keep b o q n nb (by simp)) (.inl ⟨⟨o,q⟩,by rw[hx];simp⟩) (nfr b o q nb),λb o q n hb _=>?_,λb o q n _=>U.free b o q n (by simp),λb o q _=>?_,U.tups,U.frzs,U.tbls⟩
 ·obtain⟨sl,e⟩:=U.slot b o q n hb (by simp);obtain⟨sl',e'⟩:=tq I us (by rw[fr];exact Mw _ hb) e;exact⟨sl',e'⟩
 ·obtain⟨o1,e1⟩:=U.there b o q (by simp);by_cases hb:b∈frs X.stack
  ·obtain⟨sl,e⟩:=tq I us hb e1;exact⟨_,e⟩
  ·exact⟨o1,k b o1 e1 (.inl ⟨⟨o,q⟩,by rw[hx];simp⟩) hb⟩
end
theorem Bw{P:Qi}{w:Qh}{K:OZ}{mg:Str->Option Qg}{base:Ql}{N:List Str}{qual:Str}{scope:Qt}{f:Qj}{cd:Qg}{A:Qr}{outer:List Env}{s:Qs}{H:Hp}{E:XK}{σ:St}{O O':List Qj}{H':Hp}{x:Ex}
  (hx:Kh K H O x E) (sm:bz H H') (hs:∀a∈O,a∈O'):Ho (kz (nF P w) P w K mg base N qual scope f cd A outer s H E) σ O' H' x:=by
 rintro pins s1 u H1 I s2 ⟨e,C,dx,rfl,hd,B,a0,b1,b2,b3,b4,b5⟩;have fin:∀h',Heap.FlyingW B outer e (.ref C) a0 h'->s1.heap.UpToSlots h'->nF P w outer H s E (.ref e) {s1 with heap:=h'}:=λh' fl us=>by
  have k:∀b o,s1.heap.get? b=some o->qW (kz (nF P w) P w K mg base N qual scope f cd A outer s H E) H1 b->b∉frs (kz (nF P w) P w K mg base N qual scope f cd A outer s H E).stack->h'.get? b=some o:=λb o q kb nf=>fl.1 b o (b5 b o q kb nf);have un:=Gh I rfl rfl rfl us k;have hok:=Dt I k;refine⟨e,C,dx,H1,B,a0,rfl,I.os,I.bare,un,hok,fl,λb o q hb nf=>?_,hx C dx H1 (sm.trans s2) (hd.mono (iP hs))⟩;have nf2:b∉frs (kz (nF P w) P w K mg base N qual scope f cd A outer s H E).stack:=λz=>by
   rcases List.mem_cons.mp (show b∈s.heap.objs.size::frs outer from z)with z|z
   ·rcases hb with hb|hb
    ·obtain⟨o',hb⟩:=hb
     have:=PD hb
     rw[z]at this;exact Mp _ this
    ·rw[z]at hb;exact hb I.free
   ·exact nf z
  have kb:qW (kz (nF P w) P w K mg base N qual scope f cd A outer s H E) H1 b:=hb.elim (λz=>.inl ⟨z,λy=>nomatch y⟩) λz=>.inr (.inl z);obtain⟨o1,e1⟩:∃o1,s1.heap.get? b=some o1:=by
   rcases hb with⟨o',hb⟩|hb
   ·exact I.base.there b o' hb (λz=>nomatch z)
   ·cases q0:H1 b with
    |none=>exact absurd q0 hb
    |some ob=>exact Gp (I.hok b ob q0)
  have:=k b o1 e1 kb nf2
  rw[q]at this;cases this;exact b5 b _ e1 kb nf2
 show Qu _ _ (leaving (PY qual scope s.heap.objs.size f cd) (.ref e)) _ _ s1;rcases b4 with b4|⟨oe,vs,c1,c2,c3,c4,c5⟩
 ·exact wpAny_leaves_onW I.ok.frames rfl ⟨b1,b2,b3,b4⟩ fin
 ·refine wpAny_leaving_firstW I.ok.frames b3 rfl c1 b1 b2 c3 c4 c5 λh' hL=>?_;obtain⟨k1,⟨_,_,k2⟩,k3,k4⟩:=hL;exact fin h' ⟨k1,b2,k2,c2 ▸ k3⟩ k4
end TG
namespace TG
open PySem PySem.Spec L2
variable[bc]
def iX(X:Cx)(σ:St)(O:List Qj)(H:Hp){α:Type}(r:R α)(Q:α->Prop):Prop:=match r with
 |.ok a=>Q a
 |.error (some x)=>Ho X σ O H x
 |.error none=>False
section
variable{X:Cx}{σ:St}{O:List Qj}{H H':Hp}{α β:Type}
theorem iX.bind{r:R α}{G:α->R β}{Q:β->Prop}(h:iX X σ O H (r.bind G) Q):iX X σ O H r λa=>iX X σ O H (G a) Q:=by
 match r,h with
 |.ok a,h=>exact h
 |.error (some x),h=>exact h
 |.error none,h=>exact h
theorem iX.imp{r:R α}{Q Q':α->Prop}(h:iX X σ O H r Q)(f:∀a,Q a->Q' a):iX X σ O H r Q':=by
 match r,h with
 |.ok a,h=>exact f a h
 |.error (some x),h=>exact h
 |.error none,h=>exact h
theorem iX.mono{r:R α}{Q:α->Prop}(h:iX X σ O H r Q)(s:bz H H'):iX X σ O H' r Q:=by
 match r,h with
 |.ok a,h=>exact h
 |.error (some x),h=>exact Ho.mono h s
 |.error none,h=>exact h
theorem iX.rO{o:Option α}{Q:α->Prop}(h:iX X σ O H (rO o) Q):∃a,o=some a/\Q a:=by
 match o,h with
 |some a,h=>exact⟨a,rfl,h⟩
 |none,h=>exact h.elim
end
abbrev FX:=aw->R D
def tF(X:Cx)(F:FX):TE:=λσ H Q=>∃O ρ,dU X.K O H ρ σ/\iX X σ O H (F ρ) λd=>∀v H',bz H H'->cO X.K (hid H' O) d v->Q v H'
def Jq(X:Cx)(F:aw->R Bool):TT:=λσ H Q=>∃O ρ,dU X.K O H ρ σ/\iX X σ O H (F ρ) λb=>∀H',bz H H'->Q b H'
def Lb(X:Cx)(F:aw->R (List D)):TA:=λσ H Q=>∃O ρ,dU X.K O H ρ σ/\iX X σ O H (F ρ) λds=>∀vs H',bz H H'->bh X.K (hid H' O) ds vs->Q vs H'
def FE(X:Cx)(e:Qv)(F:FX):Prop:=PE X e (tF X F)
def FT(X:Cx)(e:Qv)(F:aw->R Bool):Prop:=PT X e (Jq X F)
def FW(X:Cx)(e:Qv)(F:aw->R Bool):Prop:=PW X e (Jq X F)
def FA(X:Cx)(es:List Qv)(F:aw->R (List D)):Prop:=PA X es (Lb X F)
theorem PE.weak{X:Cx}{e:Qv}{t t':TE}(h:PE X e t)(w:∀σ H Q,t' σ H Q->t σ H Q):PE X e t':=λpins s σ H Q I q=>h pins s σ H Q I (w σ H Q q)
theorem PT.weak{X:Cx}{e:Qv}{t t':TT}(h:PT X e t)(w:∀σ H Q,t' σ H Q->t σ H Q):PT X e t':=λpins s σ H Q I q=>h pins s σ H Q I (w σ H Q q)
theorem PW.weak{X:Cx}{e:Qv}{t t':TT}(h:PW X e t)(w:∀σ H Q,t' σ H Q->t σ H Q):PW X e t':=λwhole pins s σ H Q I q=>h whole pins s σ H Q I (w σ H Q q)
theorem PA.weak{X:Cx}{es:List Qv}{t t':TA}(h:PA X es t)(w:∀σ H Q,t' σ H Q->t σ H Q):PA X es t':=λpos pins s σ H Q I q=>h pos pins s σ H Q I (w σ H Q q)
theorem PS.weak{X:Cx}{st:Qx}{t t':TS}(h:PS X st t)(w:∀D σ H,t' D σ H->t D σ H):PS X st t':=λpins s σ H Q I q=>h pins s σ H Q I (w Q σ H q)
theorem AD.weak{X:Cx}{st:List Qx}{t t':TS}(h:AD X st t)(w:∀D σ H,t' D σ H->t D σ H):AD X st t':=λpins s σ H Q I q=>h pins s σ H Q I (w Q σ H q)
def qM(ρ:aw)(i:Nat):R D:=match ρ[i]? with
 |some (some (.val d))=>.ok d
 |_=>un
theorem DA{ρ:aw}{i:Nat}{d:D}(h:qM ρ i=.ok d):ρ[i]?=some (some (.val d)):=by
 unfold qM at h;split at h
 ·rename_i e;cases h;exact e
 ·cases h
def ah(i:Nat):FX:=λρ=>qM ρ i
def fC(d:D):FX:=λ_=>.ok d
section
variable{X:Cx}
theorem tR{σ:St}{O:List Qj}{H:Hp}{ρ:aw}{i:Nat}{Q:D->Prop}(h:iX X σ O H (qM ρ i) Q):∃d,ρ[i]?=some (some (.val d))/\Q d:=by
 cases e:qM ρ i with
 |ok d=>rw[e]at h;exact⟨d,DA e,h⟩
 |error z=>
  rw[e]at h;cases z with
  |none=>exact h.elim
  |some x=>
   exfalso;unfold qM at e;split at e
   ·cases e
   ·have:=Except.error.inj e;cases this
theorem J0{i:Nat}{x:Str}{pos:Pos}(h:PE X (.Name x pos) (wG i)):FE X (.Name x pos) (ah i):=
 PE.weak h λσ H Q ⟨O,ρ,E,hF⟩=>by
  obtain⟨d,e,q⟩:=tR hF;obtain⟨v,e,dv⟩:=E.val i d e;exact⟨v,e,q v H (bz.refl H) dv⟩
theorem qR{e:Qv}{d:D}{v:V}(h:PE X e (tC v))(hd:∀K H,cO K H d v):FE X e (fC d):=
 PE.weak h λσ H Q ⟨O,ρ,E,q⟩=>q v H (bz.refl H) (hd _ _)
theorem Lr{i j pos}:FE X (.Constant (.int i) j pos) (fC (.int i)):=qR By λ_ _=>eZ.mpr rfl
theorem LC{b j pos}:FE X (.Constant (.bool b) j pos) (fC (.bl b)):=qR Hv λ_ _=>kT.mpr rfl
theorem KJ{x j pos}:FE X (.Constant (.str x) j pos) (fC (.str x)):=qR Gw λ_ _=>e9.mpr rfl
def noStar:Qv->Bool
 |.Starred _ _=>false
 |_=>true
theorem e7{e:Qv}{es:List Qv}{env:Env}(h:noStar e=true):Qw (e::es) env=(false,eval e env)::Qw es env:=by
 cases e<;>first|rfl|cases h
theorem iN{pos:Pos}{env:Env}:∀{es:List Qv},es.all noStar=true->(backTo pos (Qw es env)).any (·.1)=false
 |[],_=>rfl
 |e::es,h=>by
  rw[Np,MV]at h;rw[e7 h.1];exact iN h.2
def av:aw->R (List D):=λ_=>.ok []
def af(f:FX)(g:aw->R (List D)):aw->R (List D):=λρ=>(f ρ).bind λx=>(g ρ).bind λxs=>.ok (x::xs)
theorem GZ:FA X [] av:=PA.weak oE λσ H Q ⟨O,ρ,E,q⟩=>q [] H (bz.refl H) (cU.mpr rfl)
theorem bind_some{α β:Type}{o:Option α}{f:α->Option β}{b:β}(h:o.bind f=some b):∃a,o=some a/\f a=some b:=by
 cases o with
 |none=>cases h
 |some a=>exact⟨a,rfl,h⟩
theorem qe{ε α β:Type}{o:Except ε α}{f:α->Except ε β}{b:β}(h:o.bind f=.ok b):∃a,o=.ok a/\f a=.ok b:=by
 cases o with
 |error _=>cases h
 |ok a=>exact⟨a,rfl,h⟩
theorem DJ{e:Qv}{es:List Qv}{f:FX}{g:aw->R (List D)}(he:FE X e f)(hs:FA X es g)(hns:noStar e=true:=by rfl):FA X (e::es) (af f g):=
 PA.weak (mQ he hs (e7 hns)) λσ H Q ⟨O,ρ,E,h⟩=>
  ⟨O,ρ,E,(iX.bind h).imp λx h v H1 s1 d1=>⟨O,ρ,E.same s1,((iX.bind h).mono s1).imp λxs q vs H2 s2 d2=>q (v::vs) H2 (s1.trans s2) (bE.mpr ⟨v,vs,rfl,d1.mono (cw s2),d2⟩)⟩⟩
def small(n:Nat):Bool:=decide (n<=100000)
theorem eD{n:Nat}(h:small n=true):n<=Qm:=Mr (of_decide_eq_true h) (by decide)
theorem dJ{n:Nat}(h:n<=100000):small n=true:=decide_eq_true h
def wo(xs:List D):Option D:=if small xs.length then some (.tup xs)else none
def kI(xs:List D):Option D:=if small xs.length then some (.lst xs)else none
def bT(g:aw->R (List D)):FX:=λρ=>(g ρ).bind λxs=>rO (wo xs)
def fJ(g:aw->R (List D)):FX:=λρ=>(g ρ).bind λxs=>rO (kI xs)
theorem bP{α:Type}{c:Bool}{a b:α}(h:(if c then some a else none)=some b):c=true/\a=b:=by
 cases c with
 |true=>exact⟨rfl,Option.some.inj h⟩
 |false=>cases h
theorem fD{K:OZ}{H:Hp}{O:List Qj}{p:Qj}{ds:List D}{vs:List V}(hO:dQ H O)(hp:H p=none)(d:bh K (hid H O) ds vs):cO K (hid (upd H p (.tup vs)) O) (.tup ds) (.ref p):=
 cD.mpr ⟨p,vs,rfl,by rw[js (hO.not hp),aZ],d.mono (uY hp)⟩
theorem dh{K:OZ}{H:Hp}{O:List Qj}{p:Qj}{ds:List D}{vs:List V}(hO:dQ H O)(hp:H p=none)(d:bh K (hid H O) ds vs):cO K (hid (upd H p (.lst vs)) O) (.lst ds) (.ref p):=
 cE.mpr ⟨p,vs,rfl,nG.of (by rw[js (hO.not hp),aZ]),d.mono (uY hp)⟩
theorem JO{es:List Qv}{g:aw->R (List D)}{k pos}(h:FA X es g):FE X (.Tuple es k pos) (bT g):=
 PE.weak (Gq h) λσ H Q ⟨O,ρ,E,hF⟩=>⟨O,ρ,E,(iX.bind hF).imp λxs hF vs H1 s1 d1=>by
  obtain⟨d,e,q⟩:=iX.rO hF;obtain⟨hz,e⟩:=bP e;subst e;refine⟨by rw[<-d1.length];exact eD hz,λp hp=>?_⟩;exact q _ _ (s1.trans (bW hp _)) (fD (E.all.same s1) hp d1)⟩
theorem K6{es:List Qv}{g:aw->R (List D)}{pos}(h:FA X es g):FE X (.List es pos) (fJ g):=
 PE.weak (rV h) λσ H Q ⟨O,ρ,E,hF⟩=>⟨O,ρ,E,(iX.bind hF).imp λxs hF vs H1 s1 d1=>by
  obtain⟨d,e,q⟩:=iX.rO hF;obtain⟨hz,e⟩:=bP e;subst e;refine⟨by rw[<-d1.length];exact eD hz,λp hp=>?_⟩;exact q _ _ (s1.trans (bW hp _)) (dh (E.all.same s1) hp d1)⟩
def Dr(K:OZ)(r:V->Hp->VK->Prop)(g:D->Option D):Prop:=
 ∀(a d:D)(x:V)(O:List Qj)(H:Hp)(Q:VK),dQ H O->g a=some d->cO K (hid H O) a x->(∀v H',bz H H'->cO K (hid H' O) d v->Q v H')->r x H Q
def f1(g:D->Option D)(f:FX):FX:=λρ=>(f ρ).bind λa=>rO (g a)
def dW(K:OZ)(r:R2)(g:D->D->Option D):Prop:=
 ∀(a b d:D)(x y:V)(O:List Qj)(H:Hp)(Q:VK),dQ H O->g a b=some d->cO K (hid H O) a x->cO K (hid H O) b y->(∀v H',bz H H'->cO K (hid H' O) d v->Q v H')->r x y H Q
def f2(g:D->D->Option D)(f1 f2:FX):FX:=λρ=>(f1 ρ).bind λa=>(f2 ρ).bind λb=>rO (g a b)
theorem vi{r:R2}{g:D->D->Option D}{fa fb:FX}(s:dW X.K r g):∀σ H Q,tF X (f2 g fa fb) σ H Q->Jf r (tF X fa) (tF X fb) σ H Q:=λσ H Q ⟨O,ρ,E,hF⟩=>
 ⟨O,ρ,E,(iX.bind hF).imp fun a hF x H1 s1 d1=>⟨O,ρ,E.same s1,((iX.bind hF).mono s1).imp fun b hF y H2 s2 d2=>by
  obtain⟨d,e,q⟩:=iX.rO hF;exact s a b d x y O H2 Q (E.all.same (s1.trans s2)) e (d1.mono (cw s2)) d2 λv H3 s3 d3=>q v H3 ((s1.trans s2).trans s3) d3⟩⟩
theorem K9{a b:Qv}{op:Operator}{r:R2}{g:D->D->Option D}{fa fb:FX}{pos:Pos}(ho:kQ X (QI op) r)(s:dW X.K r g)(ha:FE X a fa)(hb:FE X b fb):FE X (.BinOp a op b pos) (f2 g fa fb):=
 PE.weak (Hy ho ha hb) (vi s)
theorem Lf{a b:Qv}{op:CmpOp}{r:R2}{g:D->D->Option D}{fa fb:FX}{pos:Pos}(ho:kQ X (QJ op) r)(s:dW X.K r g)(ha:FE X a fa)(hb:FE X b fb)(hm:QK op b=false):FE X (.Compare a [op] [b] pos) (f2 g fa fb):=
 PE.weak (Dx ho ha hb hm) (vi s)
def Kx:D->Option Bool
 |.bl b=>some b
 |_=>none
def fB(f:FX):aw->R Bool:=λρ=>(f ρ).bind λd=>rO (Kx d)
theorem CZ{t:TE}{f:FX}(h:∀σ H Q,tF X f σ H Q->t σ H Q):∀σ H Q,Jq X (fB f) σ H Q->EK t σ H Q:=λσ H Q ⟨O,ρ,E,hF⟩=>
 h σ H _ ⟨O,ρ,E,(iX.bind hF).imp λd hF v H1 s1 d1=>by
  obtain⟨b,e,q⟩:=iX.rO hF;cases d with
  |bl b'=>
   cases e;exact⟨b,kT.mp d1,q H1 s1⟩
  |_=>cases e⟩
theorem Ld{a b:Qv}{op:CmpOp}{r:R2}{g:D->D->Option D}{fa fb:FX}{pos:Pos}(ho:kQ X (QJ op) r)(s:dW X.K r g)(ha:FE X a fa)(hb:FE X b fb)(hm:QK op b=false):FT X (.Compare a [op] [b] pos) (fB (f2 g fa fb)):=
 PT.weak (Dw ho ha hb hm) (CZ (vi s))
def zF(K:OZ)(r:List V->Hp->VK->Prop)(g:List D->Option D):Prop:=
 ∀(ds:List D)(d:D)(xs:List V)(O:List Qj)(H:Hp)(Q:VK),dQ H O->g ds=some d->bh K (hid H O) ds xs->(∀v H',bz H H'->cO K (hid H' O) d v->Q v H')->r xs H Q
def fL(g:List D->Option D)(f:aw->R (List D)):FX:=λρ=>(f ρ).bind λds=>rO (g ds)
def fR(g:List D->R D)(f:aw->R (List D)):FX:=λρ=>(f ρ).bind g
theorem CF{r:List V->Hp->VK->Prop}{g:List D->Option D}{f:aw->R (List D)}(s:zF X.K r g):∀σ H Q,tF X (fL g f) σ H Q->Li r (Lb X f) σ H Q:=λσ H Q ⟨O,ρ,E,hF⟩=>
 ⟨O,ρ,E,(iX.bind hF).imp fun ds hF vs H1 s1 d1=>by
  obtain⟨d,e,q⟩:=iX.rO hF;exact s ds d vs O H1 Q (E.all.same s1) e d1 λv H2 s2 d2=>q v H2 (s1.trans s2) d2⟩
def vx(f:aw->R Bool):aw->R Bool:=λρ=>(f ρ).bind λb=>.ok (!b)
def vw(f g:aw->R Bool):aw->R Bool:=λρ=>(f ρ).bind λb=>if b then g ρ else .ok false
def BG(f g:aw->R Bool):aw->R Bool:=λρ=>(f ρ).bind λb=>if b then .ok true else g ρ
variable{a b c:Qv}{rest:List Qv}{pos:Pos}{f g:aw->R Bool}
theorem Kq(h:FT X a f):FT X (.UnaryOp .Not a pos) (vx f):=PT.weak (Hg h) λσ H Q ⟨O,ρ,E,hF⟩=>⟨O,ρ,E,(iX.bind hF).imp λb q H1 s1=>q H1 s1⟩
theorem Jl(h:FT X a f):FW X (.BoolOp .And [a] pos) f:=Ei h
theorem Le(h:FT X a f):FW X (.BoolOp .Or [a] pos) f:=FD h
theorem KO(ha:FT X a f)(hb:FW X (.BoolOp .And (b::rest) pos) g):FW X (.BoolOp .And (a::b::rest) pos) (vw f g):=PW.weak (Gm ha hb) λσ H Q ⟨O,ρ,E,hF⟩=>⟨O,ρ,E,(iX.bind hF).imp λc hF H1 s1=>by
 cases c with
 |true=>exact Ck ⟨O,ρ,E.same s1,(hF.mono s1).imp λb q H2 s2=>q H2 (s1.trans s2)⟩
 |false=>exact Bl (hF H1 s1)⟩
theorem LR(ha:FT X a f)(hb:FW X (.BoolOp .Or (b::rest) pos) g):FW X (.BoolOp .Or (a::b::rest) pos) (BG f g):=PW.weak (HI ha hb) λσ H Q ⟨O,ρ,E,hF⟩=>⟨O,ρ,E,(iX.bind hF).imp λc hF H1 s1=>by
 cases c with
 |false=>exact Bl ⟨O,ρ,E.same s1,(hF.mono s1).imp λb q H2 s2=>q H2 (s1.trans s2)⟩
 |true=>exact Ck (hF H1 s1)⟩
theorem FW.ft{e:Qv}(h:FW X e f):FT X e f:=PW.pt h
def truth:D->Option Bool
 |.non=>some false
 |.bl b=>some b
 |.int i=>some (i !=0)
 |.str x=>if small x.length then some (x.length !=0)else none
 |.tup xs=>some (!xs.isEmpty)
 |.lst xs=>some (!xs.isEmpty)
 |_=>none
def fh(f:FX):aw->R Bool:=λρ=>(f ρ).bind λd=>rO (truth d)
def yc(d:D)(k:R D):R D:=match d with
 |.bl true=>k
 |.bl false=>.ok (.bl false)
 |_=>un
def Jb(d:D)(k:R D):R D:=match d with
 |.bl false=>k
 |.bl true=>.ok (.bl true)
 |_=>un
def wL:D->Option D
 |.bl b=>some (.bl (!b))
 |_=>none
def rS(f g:FX):FX:=λρ=>(f ρ).bind λd=>yc d (g ρ)
def KP(f g:FX):FX:=λρ=>(f ρ).bind λd=>Jb d (g ρ)
def HL(f:FX):FX:=f1 wL f
variable{fa fb:FX}
theorem JR{op}(h:FE X a fa):FE X (.BoolOp op [a] pos) fa:=Ha h
theorem Lw(ha:FE X a fa)(hb:FE X (.BoolOp .And (b::rest) pos) fb):FE X (.BoolOp .And (a::b::rest) pos) (rS fa fb):=PE.weak (Gn ha hb) λσ H Q ⟨O,ρ,E,hF⟩=>⟨O,ρ,E,(iX.bind hF).imp λd hF x H1 s1 d1=>by
 cases d with
 |bl c=>
  refine⟨c,kT.mp d1,?_⟩;cases c with
  |true=>exact Ck ⟨O,ρ,E.same s1,(hF.mono s1).imp λd q v H2 s2 d2=>q v H2 (s1.trans s2) d2⟩
  |false=>exact Bl (hF _ H1 s1 (kT.mpr rfl))
 |_=>exact hF.elim⟩
def Mk(t:aw->R Bool)(f g:FX):FX:=λρ=>(t ρ).bind λc=>if c then f ρ else g ρ
end
end TG
namespace TG
open PySem PySem.Spec L2
variable[bc]
open PySem.SeqAt (EqAt RcAt RcNeAt)
mutual
def pyEq:D->D->Bool
 |.non,.non=>true
 |.bl a,.bl b=>a==b
 |.bl a,.int b=>(if a then 1 else 0)==b
 |.int a,.bl b=>a==(if b then 1 else 0)
 |.int a,.int b=>a==b
 |.str a,.str b=>a==b
 |.tup xs,.tup ys=>iS xs ys
 |.lst xs,.lst ys=>iS xs ys
 |.dct _ _,.dct _ _=>true
 |.obj _ _ _,.obj _ _ _=>true
 |.exc _ _ _,.exc _ _ _=>true
 |_,_=>false
def iS:List D->List D->Bool
 |[],[]=>true
 |x::xs,y::ys=>pyEq x y&&iS xs ys
 |_,_=>false
end
mutual
theorem pK:∀d:D,pyEq d d=true
 |.non=>by unfold pyEq;rfl
 |.bl b=>by unfold pyEq;simp
 |.int i=>by unfold pyEq;simp
 |.str x=>by unfold pyEq;simp
 |.tup xs=>by unfold pyEq;exact nz xs
 |.lst xs=>by unfold pyEq;exact nz xs
 |.dct _ _=>by unfold pyEq;rfl
 |.obj _ _ _=>by unfold pyEq;rfl
 |.exc _ _ _=>by unfold pyEq;rfl
theorem nz:∀ds:List D,iS ds ds=true
 |[]=>by unfold iS;rfl
 |d::ds=>by unfold iS;rw[pK d,nz ds];rfl
end
def yL(xs ys:List D)(j:Nat):Bool:=match xs[j]?,ys[j]? with
 |some a,some b=>pyEq a b
 |_,_=>false
theorem gQ:∀xs ys:List D,((List.range (min xs.length ys.length)).all (yL xs ys)&&xs.length==ys.length)=iS xs ys
 |[],[]=>by unfold iS;rfl
 |[],_::_=>by unfold iS;simp
 |_::_,[]=>by unfold iS;simp
 |x::xs,y::ys=>by
  have ih:=gQ xs ys
  conv=>rhs;unfold iS
  rw[<-ih];have e:min (x::xs).length (y::ys).length=min xs.length ys.length+1:=by simp only[M6];omega
  rw[e,List.range_succ_eq_map,Np,List.all_map];have e2:((x::xs).length==(y::ys).length)=(xs.length==ys.length):=by simp
  rw[e2,Bool.and_assoc];have e3:(List.range (min xs.length ys.length)).all (yL (x::xs) (y::ys)∘Nat.succ)=(List.range (min xs.length ys.length)).all (yL xs ys):=by
   congr 1
  rw[e3];rfl
mutual
def pl:D->Bool
 |.tup xs=>mB xs
 |.lst xs=>mB xs
 |.dct _ _=>false
 |.obj _ _ _=>false
 |.exc _ _ _=>false
 |_=>true
def mB:List D->Bool
 |[]=>true
 |x::xs=>pl x&&mB xs
end
theorem gL{ks vs:List D}(h:pl (.dct ks vs)=true):False:=by unfold pl at h;cases h
theorem gI{c:Str}{fs:List Str}{vs:List D}(h:pl (.obj c fs vs)=true):False:=by unfold pl at h;cases h
theorem gO{c:Str}{fs:List Str}{vs:List D}(h:pl (.exc c fs vs)=true):False:=by unfold pl at h;cases h
theorem mM:∀{xs:List D},mB xs=true->∀x∈xs,pl x=true
 |[],_,_,h=>nomatch h
 |x::xs,h,y,hy=>by
  unfold mB at h;rw[MV]at h;rcases List.mem_cons.mp hy with z|z
  ·rw[z];exact h.1
  ·exact mM h.2 y z
theorem xE:∀{xs:List D},(∀x∈xs,pl x=true)->mB xs=true
 |[],_=>by unfold mB;rfl
 |x::xs,h=>by
  unfold mB;rw[MV];exact⟨h x Mv,xE λy hy=>h y (Mw _ hy)⟩
theorem dG{xs:List D}:pl (.tup xs)=mB xs:=by rw[pl]
theorem eF{xs:List D}:pl (.lst xs)=mB xs:=by rw[pl]
def eK:Nat->D->Bool
 |n+1,.tup xs=>xs.all (eK n)
 |n+1,.lst xs=>xs.all (eK n)
 |0,.tup _=>false
 |0,.lst _=>false
 |_,.dct _ _=>false
 |_,.obj _ _ _=>false
 |_,.exc _ _ _=>false
 |_,_=>true
section
variable{X:Cx}{pins:List (Qj×Obj)}{σ:St}{H:Hp}{s:Qs}
theorem Inv.not_both(I:Inv X pins σ H s){a:Qj}{xs ys:List V}(h:oF X.K H a xs)(h':nG X.K H a ys):False:=by
 obtain⟨its,_,ht,_⟩:=I.tuple h;obtain⟨its2,_,hl,_⟩:=I.list h';exact absurd rfl (SeqAt.ne_of_list_tuple hl.isList (show s.heap.IsTuple a its.toArray from ht))
mutual
theorem Inv.den_inj(I:Inv X pins σ H s):∀{a b:D}{v:V},pl a=true->pl b=true->cO X.K H a v->cO X.K H b v->a=b
 |.non,b,v,pa,pb,h,h'=>by
  rw[j6]at h;subst h;cases b with
  |non=>rfl
  |bl _=>rw[kT]at h';cases h'
  |int _=>rw[eZ]at h';cases h'
  |str _=>rw[e9]at h';cases h'
  |tup _=>rw[cD]at h';obtain⟨_,_,e,_⟩:=h';cases e
  |lst _=>rw[cE]at h';obtain⟨_,_,e,_⟩:=h';cases e
  |dct _ _=>exact(gL pb).elim
  |obj _ _ _=>exact(gI pb).elim
  |exc _ _ _=>exact(gO pb).elim
 |.bl x,b,v,pa,pb,h,h'=>by
  rw[kT]at h;subst h;cases b with
  |non=>rw[j6]at h';cases h'
  |bl _=>rw[kT]at h';cases h';rfl
  |int _=>rw[eZ]at h';cases h'
  |str _=>rw[e9]at h';cases h'
  |tup _=>rw[cD]at h';obtain⟨_,_,e,_⟩:=h';cases e
  |lst _=>rw[cE]at h';obtain⟨_,_,e,_⟩:=h';cases e
  |dct _ _=>exact(gL pb).elim
  |obj _ _ _=>exact(gI pb).elim
  |exc _ _ _=>exact(gO pb).elim
 |.int x,b,v,pa,pb,h,h'=>by
  rw[eZ]at h;subst h;cases b with
  |non=>rw[j6]at h';cases h'
  |bl _=>rw[kT]at h';cases h'
  |int _=>rw[eZ]at h';cases h';rfl
  |str _=>rw[e9]at h';cases h'
  |tup _=>rw[cD]at h';obtain⟨_,_,e,_⟩:=h';cases e
  |lst _=>rw[cE]at h';obtain⟨_,_,e,_⟩:=h';cases e
  |dct _ _=>exact(gL pb).elim
  |obj _ _ _=>exact(gI pb).elim
  |exc _ _ _=>exact(gO pb).elim
 |.str x,b,v,pa,pb,h,h'=>by
  rw[e9]at h;subst h;cases b with
  |non=>rw[j6]at h';cases h'
  |bl _=>rw[kT]at h';cases h'
  |int _=>rw[eZ]at h';cases h'
  |str _=>rw[e9]at h';cases h';rfl
  |tup _=>rw[cD]at h';obtain⟨_,_,e,_⟩:=h';cases e
  |lst _=>rw[cE]at h';obtain⟨_,_,e,_⟩:=h';cases e
  |dct _ _=>exact(gL pb).elim
  |obj _ _ _=>exact(gI pb).elim
  |exc _ _ _=>exact(gO pb).elim
 |.tup xs,b,v,pa,pb,h,h'=>by
  rw[cD]at h;obtain⟨a,vs,e,h1,h2⟩:=h;subst e;cases b with
  |non=>rw[j6]at h';cases h'
  |bl _=>rw[kT]at h';cases h'
  |int _=>rw[eZ]at h';cases h'
  |str _=>rw[e9]at h';cases h'
  |tup ys=>
   rw[cD]at h';obtain⟨a',vs',e,h1',h2'⟩:=h';cases e;have ev:=I.tuple_inj (oF.of h1) (oF.of h1');subst ev;rw[Inv.denL_inj I (by first|rw[<-dG];exact pa|rw[<-eF];exact pa) (by first|rw[<-dG];exact pb|rw[<-eF];exact pb) h2 h2']
  |lst _=>rw[cE]at h';obtain⟨_,_,e,h1',_⟩:=h';cases e;exact(Inv.not_both I (oF.of h1) h1').elim
  |dct _ _=>exact(gL pb).elim
  |obj _ _ _=>exact(gI pb).elim
  |exc _ _ _=>exact(gO pb).elim
 |.lst xs,b,v,pa,pb,h,h'=>by
  rw[cE]at h;obtain⟨a,vs,e,h1,h2⟩:=h;subst e;cases b with
  |non=>rw[j6]at h';cases h'
  |bl _=>rw[kT]at h';cases h'
  |int _=>rw[eZ]at h';cases h'
  |str _=>rw[e9]at h';cases h'
  |lst ys=>
   rw[cE]at h';obtain⟨a',vs',e,h1',h2'⟩:=h';cases e;have ev:=I.list_inj h1 h1';subst ev;rw[Inv.denL_inj I (by first|rw[<-dG];exact pa|rw[<-eF];exact pa) (by first|rw[<-dG];exact pb|rw[<-eF];exact pb) h2 h2']
  |tup _=>rw[cD]at h';obtain⟨_,_,e,h1',_⟩:=h';cases e;exact(Inv.not_both I (oF.of h1') h1).elim
  |dct _ _=>exact(gL pb).elim
  |obj _ _ _=>exact(gI pb).elim
  |exc _ _ _=>exact(gO pb).elim
 |.dct _ _,_,_,pa,_,_,_=>(gL pa).elim
 |.obj _ _ _,_,_,pa,_,_,_=>(gI pa).elim
 |.exc _ _ _,_,_,pa,_,_,_=>(gO pa).elim
theorem Inv.denL_inj(I:Inv X pins σ H s):∀{as bs:List D}{vs:List V},mB as=true->mB bs=true->bh X.K H as vs->bh X.K H bs vs->as=bs
 |[],bs,vs,pa,pb,h,h'=>by
  rw[cU]at h;subst h;cases bs with
  |nil=>rfl
  |cons b bs=>rw[bE]at h';obtain⟨_,_,e,_⟩:=h';cases e
 |a::as,bs,vs,pa,pb,h,h'=>by
  rw[bE]at h;obtain⟨v,r,e,h1,h2⟩:=h;subst e;cases bs with
  |nil=>rw[cU]at h';cases h'
  |cons b bs=>
   rw[bE]at h';obtain⟨v',r',e,h1',h2'⟩:=h';cases e;unfold mB at pa pb;rw[MV]at pa pb;rw[Inv.den_inj I pa.1 pb.1 h1 h1',Inv.denL_inj I pa.2 pb.2 h2 h2']
end
def nc:D->Option V
 |.non=>some .non
 |.bl b=>some (.bl b)
 |.int i=>some (.int i)
 |.str x=>some (.str x)
 |_=>none
theorem oU{K:OZ}{d:D}{v x:V}(h:nc d=some x)(hd:cO K H d v):v=x/\C0 x=true:=by
 cases d with
 |non=>cases h;exact⟨j6.mp hd,rfl⟩
 |bl b=>cases h;exact⟨kT.mp hd,rfl⟩
 |int i=>cases h;exact⟨eZ.mp hd,rfl⟩
 |str y=>cases h;exact⟨e9.mp hd,rfl⟩
 |_=>cases h
theorem DL{a b:D}{x y:V}(ha:nc a=some x)(hb:nc b=some y):Ls x y=pyEq a b:=by
 cases a<;>cases ha<;>cases b<;>cases hb<;>(unfold pyEq Ls;rfl)
theorem vZ{a:D}{x:V}(n:Nat)(h:nc a=some x):eK n a=true:=by
 cases a with
 |tup _=>cases h
 |lst _=>cases h
 |dct _ _=>cases h
 |obj _ _ _=>cases h
 |exc _ _ _=>cases h
 |_=>cases n<;>rfl
theorem wu{a:D}(h:nc a=none):eK 0 a=false:=by
 cases a with
 |tup _=>rfl
 |lst _=>rfl
 |dct _ _=>rfl
 |obj _ _ _=>rfl
 |exc _ _ _=>rfl
 |_=>cases h
theorem in1_units(A:Qr):A.in1.units=A.units+1:=rfl
theorem oq{vs:List V}{us:List Qg}(r:Vals vs us){j:Nat}(h:j<us.toArray.size):∃x,vs[j]?=some x/\RelV x us.toArray[j]:=by
 have hj:j<us.length:=by simpa using h
 have hl:=r.length;have hv:j<vs.length:=by omega
 obtain⟨u,e,ru⟩:=r.get (i:=j) (x:=vs[j]) (by simp[hv]);refine⟨vs[j],by simp[hv],?_⟩;have e2:us.toArray[j]=u:=by
  rw[Nq hj]at e
  simpa using Option.some.inj e
 rw[e2];exact ru
theorem om{K:OZ}{ds:List D}{vs:List V}(h:bh K H ds vs){j:Nat}{x:V}(e:vs[j]?=some x):∃d,ds[j]?=some d/\cO K H d x:=by
 have hj:j<vs.length:=(List.getElem?_eq_some_iff.mp e).1;have hl:=h.length;have hd:j<ds.length:=by omega
 obtain⟨v,e1,e2⟩:=h.get (i:=j) (d:=ds[j]) (by simp[hd]);rw[e]at e1;cases e1;exact⟨ds[j],by simp[hd],e2⟩
theorem BF(I:Inv X pins σ H s):∀(n:Nat)(a b:D)(x y:V)(u v:Qg)(A:Qr),pl a=true->pl b=true->(eK n a=true\/eK n b=true)->cO X.K H a x->cO X.K H b y->RelV x u->RelV y v->A.units+n<QQ->EqAt A s u v (pyEq a b):=by
 intro n
 induction n with
 |zero=>
  intro a b x y u v A pa pb hd ha hb ru rv hA;have hu:A.units<QQ:=hA;cases ha':nc a with
  |some x'=>
   obtain⟨e,f⟩:=oU ha' ha;subst e;cases hb':nc b with
   |some y'=>
    obtain⟨e,f'⟩:=oU hb' hb;subst e;rw[<-DL ha' hb'];exact G6 ru rv f f'
   |none=>
    cases b with
    |tup ys=>
     rw[cD]at hb;obtain⟨p,vs,e,h1,h2⟩:=hb;subst e;cases rv;obtain⟨its,_,ht,_⟩:=I.tuple (oF.of h1);have ht':s.heap.IsTuple p its.toArray:=ht;cases a with
     |non=>cases ha';cases ru;unfold pyEq;exact .none_tuple ht' hu
     |bl z=>cases ha';cases ru;unfold pyEq;exact .bool_tuple z ht' hu
     |int z=>cases ha';obtain⟨t,rfl⟩:=ru;unfold pyEq;exact .int_tuple z t ht' hu
     |str z=>cases ha';obtain⟨t,rfl⟩:=ru;unfold pyEq;exact .str_tuple z t ht' hu
     |_=>cases ha'
    |lst ys=>
     rw[cE]at hb;obtain⟨p,vs,e,h1,h2⟩:=hb;subst e;cases rv;obtain⟨its,_,ht,_⟩:=I.list h1;have ht':s.heap.IsList p its.toArray:=ht.isList;cases a with
     |non=>cases ha';cases ru;unfold pyEq;exact .none_list ht' hu
     |bl z=>cases ha';cases ru;unfold pyEq;exact .bool_list z ht' hu
     |int z=>cases ha';obtain⟨t,rfl⟩:=ru;unfold pyEq;exact .int_list z t ht' hu
     |str z=>cases ha';obtain⟨t,rfl⟩:=ru;unfold pyEq;exact .str_list z t ht' hu
     |_=>cases ha'
    |dct _ _=>exact(gL pb).elim
    |obj _ _ _=>exact(gI pb).elim
    |exc _ _ _=>exact(gO pb).elim
    |_=>cases hb'
  |none=>
   have hdb:eK 0 b=true:=by
    rcases hd with hd|hd
    ·rw[wu ha']at hd;cases hd
    ·exact hd
   cases hb':nc b with
   |none=>rw[wu hb']at hdb;cases hdb
   |some y'=>
    obtain⟨e,f'⟩:=oU hb' hb;subst e;cases a with
    |tup xs=>
     rw[cD]at ha;obtain⟨p,vs,e,h1,h2⟩:=ha;subst e;cases ru;obtain⟨its,_,ht,_⟩:=I.tuple (oF.of h1);have ht':s.heap.IsTuple p its.toArray:=ht;cases b with
     |non=>cases hb';cases rv;unfold pyEq;exact .tuple_none ht' hu
     |bl z=>cases hb';cases rv;unfold pyEq;exact .tuple_bool z ht' hu
     |int z=>cases hb';obtain⟨t,rfl⟩:=rv;unfold pyEq;exact .tuple_int z t ht' hu
     |str z=>cases hb';obtain⟨t,rfl⟩:=rv;unfold pyEq;exact .tuple_str z t ht' hu
     |_=>cases hb'
    |lst xs=>
     rw[cE]at ha;obtain⟨p,vs,e,h1,h2⟩:=ha;subst e;cases ru;obtain⟨its,_,ht,_⟩:=I.list h1;have ht':s.heap.IsList p its.toArray:=ht.isList;cases b with
     |non=>cases hb';cases rv;unfold pyEq;exact .list_none ht' hu
     |bl z=>cases hb';cases rv;unfold pyEq;exact .list_bool z ht' hu
     |int z=>cases hb';obtain⟨t,rfl⟩:=rv;unfold pyEq;exact .list_int z t ht' hu
     |str z=>cases hb';obtain⟨t,rfl⟩:=rv;unfold pyEq;exact .list_str z t ht' hu
     |_=>cases hb'
    |dct _ _=>exact(gL pa).elim
    |obj _ _ _=>exact(gI pa).elim
    |exc _ _ _=>exact(gO pa).elim
    |_=>cases ha'
 |succ n ih=>
  intro a b x y u v A pa pb hd ha hb ru rv hA;have hu:A.units<QQ:=by omega
  have flatWay:(∀xs ys,¬(a=.tup xs/\b=.tup ys))->(∀xs ys,¬(a=.lst xs/\b=.lst ys))->EqAt A s u v (pyEq a b):=by
   intro n1 n2;cases ha':nc a with
   |some x'=>exact ih a b x y u v A pa pb (.inl (vZ n ha')) ha hb ru rv ‹0›
   |none=>
    cases hb':nc b with
    |some y'=>exact ih a b x y u v A pa pb (.inr (vZ n hb')) ha hb ru rv ‹0›
    |none=>
     cases a with
     |tup xs=>
      cases b with
      |tup ys=>exact absurd ⟨rfl,rfl⟩ (n1 xs ys)
      |lst ys=>
       rw[cD]at ha;obtain⟨p,vs,e,h1,h2⟩:=ha;subst e;rw[cE]at hb;obtain⟨p',vs',e,h1',h2'⟩:=hb;subst e;cases ru;cases rv;obtain⟨its,_,ht,_⟩:=I.tuple (oF.of h1);obtain⟨its2,_,ht2,_⟩:=I.list h1';unfold pyEq;exact .tuple_list (show s.heap.IsTuple p its.toArray from ht) ht2.isList hu
      |dct _ _=>exact(gL pb).elim
      |obj _ _ _=>exact(gI pb).elim
      |exc _ _ _=>exact(gO pb).elim
      |_=>cases hb'
     |lst xs=>
      cases b with
      |lst ys=>exact absurd ⟨rfl,rfl⟩ (n2 xs ys)
      |tup ys=>
       rw[cE]at ha;obtain⟨p,vs,e,h1,h2⟩:=ha;subst e;rw[cD]at hb;obtain⟨p',vs',e,h1',h2'⟩:=hb;subst e;cases ru;cases rv;obtain⟨its,_,ht,_⟩:=I.list h1;obtain⟨its2,_,ht2,_⟩:=I.tuple (oF.of h1');unfold pyEq;exact .list_tuple ht.isList (show s.heap.IsTuple p' its2.toArray from ht2) hu
      |dct _ _=>exact(gL pb).elim
      |obj _ _ _=>exact(gI pb).elim
      |exc _ _ _=>exact(gO pb).elim
      |_=>cases hb'
     |dct _ _=>exact(gL pa).elim
     |obj _ _ _=>exact(gI pa).elim
     |exc _ _ _=>exact(gO pa).elim
     |_=>cases ha'
  have items:∀(xs ys:List D)(vs vs':List V)(its its':List Qg),mB xs=true->mB ys=true->(eK (n+1) (.tup xs)=true\/eK (n+1) (.tup ys)=true)->bh X.K H xs vs->bh X.K H ys vs'->Vals vs its->Vals vs' its'->
    ∀j (h1:j<its.toArray.size) (h2:j<its'.toArray.size),EqAt A.in1 s its.toArray[j] its'.toArray[j] (yL xs ys j):=by
   intro xs ys vs vs' its its' px py hdd hx hy rx ry j h1 h2;obtain⟨w1,e1,r1⟩:=oq rx h1;obtain⟨w2,e2,r2⟩:=oq ry h2;obtain⟨d1,f1,g1⟩:=om hx e1;obtain⟨d2,f2,g2⟩:=om hy e2;have e3:yL xs ys j=pyEq d1 d2:=(by unfold yL;rw[f1,f2]);rw[e3];refine ih d1 d2 w1 w2 _ _ A.in1 (mM px _ (MQ f1)) (mM py _ (MQ f2)) ?_ g1 g2 r1 r2 (by rw[in1_units];omega);rcases hdd with hdd|hdd
   ·exact .inl (List.all_eq_true.mp hdd d1 (MQ f1))
   ·exact .inr (List.all_eq_true.mp hdd d2 (MQ f2))
  by_cases hT:∃xs ys,a=.tup xs/\b=.tup ys
  ·obtain⟨xs,ys,rfl,rfl⟩:=hT;have da:=ha;have db:=hb;rw[cD]at ha hb;obtain⟨p,vs,e,h1,h2⟩:=ha;subst e;obtain⟨p',vs',e,h1',h2'⟩:=hb;subst e;cases ru;cases rv;by_cases hp:p=p'
   ·subst hp;have e:=Inv.den_inj I pa pb da db;rw[e,pK];exact EqAt.same _
   ·obtain⟨its,rv1,ht,_⟩:=I.tuple (oF.of h1);obtain⟨its2,rv2,ht2,_⟩:=I.tuple (oF.of h1');refine EqAt.of_refs hp ?_;have q:=RcAt.tuples (e:=yL xs ys) (show s.heap.IsTuple p its.toArray from ht) (show s.heap.IsTuple p' its2.toArray from ht2) hu (items xs ys vs vs' its its2 (by first|rw[<-dG];exact pa|rw[<-eF];exact pa) (by first|rw[<-dG];exact pb|rw[<-eF];exact pb) hd h2 h2' rv1 rv2);have z1:its.toArray.size=xs.length:=(by rw[MF,<-rv1.length,<-h2.length]);have z2:its2.toArray.size=ys.length:=(by rw[MF,<-rv2.length,<-h2'.length]);rw[z1,z2,gQ]at q;unfold pyEq;exact q
  ·by_cases hL:∃xs ys,a=.lst xs/\b=.lst ys
   ·obtain⟨xs,ys,rfl,rfl⟩:=hL;have da:=ha;have db:=hb;rw[cE]at ha hb;obtain⟨p,vs,e,h1,h2⟩:=ha;subst e;obtain⟨p',vs',e,h1',h2'⟩:=hb;subst e;cases ru;cases rv;by_cases hp:p=p'
    ·subst hp;have e:=Inv.den_inj I pa pb da db;rw[e,pK];exact EqAt.same _
    ·obtain⟨its,rv1,ht,_⟩:=I.list h1;obtain⟨its2,rv2,ht2,_⟩:=I.list h1';refine EqAt.of_refs hp ?_;have z1:its.toArray.size=xs.length:=(by rw[MF,<-rv1.length,<-h2.length]);have z2:its2.toArray.size=ys.length:=(by rw[MF,<-rv2.length,<-h2'.length]);have er:=gQ xs ys;by_cases hz:its.toArray.size=its2.toArray.size
     ·have q:=RcAt.lists (e:=yL xs ys) ht.isList ht2.isList hz hu (items xs ys vs vs' its its2 (by first|rw[<-dG];exact pa|rw[<-eF];exact pa) (by first|rw[<-dG];exact pb|rw[<-eF];exact pb) hd h2 h2' rv1 rv2);rw[z1]at q;have hz':xs.length=ys.length:=(by omega);rw[<-hz',Nr]at er;simp only[beq_self_eq_true,Nt]at er;rw[er]at q;unfold pyEq;exact q
     ·have hne:(its.toArray.size !=its2.toArray.size)=true:=(by simpa using hz);have q:=RcAt.lists_lengths (A:=A) ht.isList ht2.isList hne hu;have hz':(xs.length==ys.length)=false:=by
       rw[z1,z2]at hz
       simpa using hz
      rw[hz',Nu]at er;unfold pyEq;rw[<-er];exact q
   ·exact flatWay (λxs ys z=>hT ⟨xs,ys,z⟩) λxs ys z=>hL ⟨xs,ys,z⟩
end
end TG
namespace TG
open PySem PySem.Spec L2
variable[bc]
open PySem.SeqAt (EqAt RcAt RcNeAt)
section
variable{X:Cx}{pins:List (Qj×Obj)}{σ:St}{H:Hp}{s:Qs}
theorem qj(I:Inv X pins σ H s){n:Nat}{xs ys:List D}{vs vs':List V}{its its':List Qg}{A:Qr}(px:mB xs=true)(py:mB ys=true)(hdd:eK (n+1) (.tup xs)=true\/eK (n+1) (.tup ys)=true)(hx:bh X.K H xs vs)(hy:bh X.K H ys vs')(rx:Vals vs its)(ry:Vals vs' its')(hA:A.units+n<QQ):
  ∀j (h1:j<its.toArray.size) (h2:j<its'.toArray.size),EqAt A s its.toArray[j] its'.toArray[j] (yL xs ys j):=by
 intro j h1 h2;obtain⟨w1,e1,r1⟩:=oq rx h1;obtain⟨w2,e2,r2⟩:=oq ry h2;obtain⟨d1,f1,g1⟩:=om hx e1;obtain⟨d2,f2,g2⟩:=om hy e2;have e3:yL xs ys j=pyEq d1 d2:=by unfold yL;rw[f1,f2]
 rw[e3];refine BF I n d1 d2 w1 w2 _ _ A (mM px _ (MQ f1)) (mM py _ (MQ f2)) ?_ g1 g2 r1 r2 hA;rcases hdd with hdd|hdd
 ·exact .inl (List.all_eq_true.mp hdd d1 (MQ f1))
 ·exact .inr (List.all_eq_true.mp hdd d2 (MQ f2))
inductive Way(I:Inv X pins σ H s):D->Qg->Prop where
 |non:Way I .non .none
 |bl (b:Bool):Way I (.bl b) (.bool b)
 |int (i:Int) (t:Tok):Way I (.int i) (.int i t)
 |str (x:Str) (t:Tok):Way I (.str x) (.str x t)
 |tup {xs:List D} {p:Qj} {vs:List V} {its:List Qg} (h:bh X.K H xs vs) (r:Vals vs its) (t:s.heap.IsTuple p its.toArray):Way I (.tup xs) (.ref p)
 |lst {xs:List D} {p:Qj} {vs:List V} {its:List Qg} (h:bh X.K H xs vs) (r:Vals vs its) (t:s.heap.IsList p its.toArray):Way I (.lst xs) (.ref p)
def top:D->Bool
 |.dct _ _=>false
 |.obj _ _ _=>false
 |.exc _ _ _=>false
 |_=>true
theorem fH{d:D}(h:pl d=true):top d=true:=by
 cases d with
 |dct _ _=>exact(gL h).elim
 |obj _ _ _=>exact(gI h).elim
 |exc _ _ _=>exact(gO h).elim
 |_=>rfl
theorem fA(I:Inv X pins σ H s){d:D}{v:V}{u:Qg}(pd:top d=true)(h:cO X.K H d v)(r:RelV v u):Way I d u:=by
 cases d with
 |non=>rw[j6]at h;subst h;cases r;exact .non
 |bl b=>rw[kT]at h;subst h;cases r;exact .bl b
 |int i=>rw[eZ]at h;subst h;obtain⟨t,rfl⟩:=r;exact .int i t
 |str x=>rw[e9]at h;subst h;obtain⟨t,rfl⟩:=r;exact .str x t
 |tup xs=>
  rw[cD]at h;obtain⟨p,vs,e,h1,h2⟩:=h;subst e;cases r;obtain⟨its,rv,ht,_⟩:=I.tuple (oF.of h1);exact .tup h2 rv ht
 |lst xs=>
  rw[cE]at h;obtain⟨p,vs,e,h1,h2⟩:=h;subst e;cases r;obtain⟨its,rv,ht,_⟩:=I.list h1;exact .lst h2 rv ht.isList
 |dct _ _=>cases pd
 |obj _ _ _=>cases pd
 |exc _ _ _=>cases pd
theorem GA(I:Inv X pins σ H s){n:Nat}{a b:D}{x y:V}{u v:Qg}{A:Qr}(pa:pl a=true)(pb:pl b=true)(hd:eK (n+1) a=true\/eK (n+1) b=true)(ha:cO X.K H a x)(hb:cO X.K H b y)(ru:RelV x u)(rv:RelV y v)(hA:A.units+n+1<QQ):RcAt A s u v (pyEq a b):=by
 have hu:A.units<QQ:=by omega
 cases fA I (fH pa) ha ru with
 |non=>cases fA I (fH pb) hb rv with
  |non=>unfold pyEq;exact .none_none
  |bl b=>unfold pyEq;exact .none_bool b
  |int i t=>unfold pyEq;exact .none_int i t
  |str x t=>unfold pyEq;exact .none_str x t
  |tup h r t=>unfold pyEq;exact .none_tuple t hu
  |lst h r t=>unfold pyEq;exact .none_list t hu
 |bl z=>cases fA I (fH pb) hb rv with
  |non=>unfold pyEq;exact .bool_none z
  |bl b=>unfold pyEq;exact .bool_bool z b
  |int i t=>unfold pyEq;exact .bool_int z i t
  |str x t=>unfold pyEq;exact .bool_str z x t
  |tup h r t=>unfold pyEq;exact .bool_tuple z t hu
  |lst h r t=>unfold pyEq;exact .bool_list z t hu
 |int z tz=>cases fA I (fH pb) hb rv with
  |non=>unfold pyEq;exact .int_none z tz
  |bl b=>unfold pyEq;exact .int_bool z tz b
  |int i t=>unfold pyEq;exact .int_int z tz i t
  |str x t=>unfold pyEq;exact .int_str z tz x t
  |tup h r t=>unfold pyEq;exact .int_tuple z tz t hu
  |lst h r t=>unfold pyEq;exact .int_list z tz t hu
 |str z tz=>cases fA I (fH pb) hb rv with
  |non=>unfold pyEq;exact .str_none z tz
  |bl b=>unfold pyEq;exact .str_bool z tz b
  |int i t=>unfold pyEq;exact .str_int z tz i t
  |str x t=>unfold pyEq;exact .str_str z tz x t
  |tup h r t=>unfold pyEq;exact .str_tuple z tz t hu
  |lst h r t=>unfold pyEq;exact .str_list z tz t hu
 |@tup xs p vs its h1 r1 t1=>cases fA I (fH pb) hb rv with
  |non=>unfold pyEq;exact .tuple_none t1 hu
  |bl b=>unfold pyEq;exact .tuple_bool b t1 hu
  |int i t=>unfold pyEq;exact .tuple_int i t t1 hu
  |str x t=>unfold pyEq;exact .tuple_str x t t1 hu
  |@tup ys p' vs' its' h2 r2 t2=>
   have q:=RcAt.tuples (e:=yL xs ys) t1 t2 hu (qj (A:=A.in1) I (by first|rw[<-dG];exact pa|rw[<-eF];exact pa) (by first|rw[<-dG];exact pb|rw[<-eF];exact pb) hd h1 h2 r1 r2 (by rw[in1_units];omega));have z1:its.toArray.size=xs.length:=(by rw[MF,<-r1.length,<-h1.length]);have z2:its'.toArray.size=ys.length:=(by rw[MF,<-r2.length,<-h2.length]);rw[z1,z2,gQ]at q;unfold pyEq;exact q
  |lst h r t=>unfold pyEq;exact .tuple_list t1 t hu
 |@lst xs p vs its h1 r1 t1=>cases fA I (fH pb) hb rv with
  |non=>unfold pyEq;exact .list_none t1 hu
  |bl b=>unfold pyEq;exact .list_bool b t1 hu
  |int i t=>unfold pyEq;exact .list_int i t t1 hu
  |str x t=>unfold pyEq;exact .list_str x t t1 hu
  |tup h r t=>unfold pyEq;exact .list_tuple t1 t hu
  |@lst ys p' vs' its' h2 r2 t2=>
   have z1:its.toArray.size=xs.length:=(by rw[MF,<-r1.length,<-h1.length]);have z2:its'.toArray.size=ys.length:=(by rw[MF,<-r2.length,<-h2.length]);have er:=gQ xs ys;by_cases hz:its.toArray.size=its'.toArray.size
   ·have q:=RcAt.lists (e:=yL xs ys) t1 t2 hz hu (qj (A:=A.in1) I (by first|rw[<-dG];exact pa|rw[<-eF];exact pa) (by first|rw[<-dG];exact pb|rw[<-eF];exact pb) hd h1 h2 r1 r2 (by rw[in1_units];omega));rw[z1]at q;have hz':xs.length=ys.length:=(by omega);rw[<-hz',Nr]at er;simp only[beq_self_eq_true,Nt]at er;rw[er]at q;unfold pyEq;exact q
   ·have q:=RcAt.lists_lengths (A:=A) t1 t2 (by simpa using hz) hu;have hz':(xs.length==ys.length)=false:=by
     rw[z1,z2]at hz
     simpa using hz
    rw[hz',Nu]at er;unfold pyEq;rw[<-er];exact q
theorem Br(I:Inv X pins σ H s){n:Nat}{a b:D}{x y:V}{u v:Qg}{A:Qr}(pa:pl a=true)(pb:pl b=true)(hd:eK (n+1) a=true\/eK (n+1) b=true)(ha:cO X.K H a x)(hb:cO X.K H b y)(ru:RelV x u)(rv:RelV y v)(hA:A.units+n+1<QQ):RcNeAt A s u v (!pyEq a b):=by
 have hu:A.units<QQ:=by omega
 cases fA I (fH pa) ha ru with
 |non=>cases fA I (fH pb) hb rv with
  |non=>unfold pyEq;exact .none_none
  |bl b=>unfold pyEq;exact .none_bool b
  |int i t=>unfold pyEq;exact .none_int i t
  |str x t=>unfold pyEq;exact .none_str x t
  |tup h r t=>unfold pyEq;exact .none_tuple t hu
  |lst h r t=>unfold pyEq;exact .none_list t hu
 |bl z=>cases fA I (fH pb) hb rv with
  |non=>unfold pyEq;exact .bool_none z
  |bl b=>unfold pyEq;exact .bool_bool z b
  |int i t=>unfold pyEq;exact .bool_int z i t
  |str x t=>unfold pyEq;exact .bool_str z x t
  |tup h r t=>unfold pyEq;exact .bool_tuple z t hu
  |lst h r t=>unfold pyEq;exact .bool_list z t hu
 |int z tz=>cases fA I (fH pb) hb rv with
  |non=>unfold pyEq;exact .int_none z tz
  |bl b=>unfold pyEq;exact .int_bool z tz b
  |int i t=>unfold pyEq;exact .int_int z tz i t
  |str x t=>unfold pyEq;exact .int_str z tz x t
  |tup h r t=>unfold pyEq;exact .int_tuple z tz t hu
  |lst h r t=>unfold pyEq;exact .int_list z tz t hu
 |str z tz=>cases fA I (fH pb) hb rv with
  |non=>unfold pyEq;exact .str_none z tz
  |bl b=>unfold pyEq;exact .str_bool z tz b
  |int i t=>unfold pyEq;exact .str_int z tz i t
  |str x t=>unfold pyEq;exact .str_str z tz x t
  |tup h r t=>unfold pyEq;exact .str_tuple z tz t hu
  |lst h r t=>unfold pyEq;exact .str_list z tz t hu
 |@tup xs p vs its h1 r1 t1=>cases fA I (fH pb) hb rv with
  |non=>unfold pyEq;exact .tuple_none t1 hu
  |bl b=>unfold pyEq;exact .tuple_bool b t1 hu
  |int i t=>unfold pyEq;exact .tuple_int i t t1 hu
  |str x t=>unfold pyEq;exact .tuple_str x t t1 hu
  |@tup ys p' vs' its' h2 r2 t2=>
   have q:=RcNeAt.tuples (e:=yL xs ys) t1 t2 hu (qj (A:=A.in1) I (by first|rw[<-dG];exact pa|rw[<-eF];exact pa) (by first|rw[<-dG];exact pb|rw[<-eF];exact pb) hd h1 h2 r1 r2 (by rw[in1_units];omega));have z1:its.toArray.size=xs.length:=(by rw[MF,<-r1.length,<-h1.length]);have z2:its'.toArray.size=ys.length:=(by rw[MF,<-r2.length,<-h2.length]);rw[z1,z2,gQ]at q;unfold pyEq;exact q
  |lst h r t=>unfold pyEq;exact .tuple_list t1 t hu
 |@lst xs p vs its h1 r1 t1=>cases fA I (fH pb) hb rv with
  |non=>unfold pyEq;exact .list_none t1 hu
  |bl b=>unfold pyEq;exact .list_bool b t1 hu
  |int i t=>unfold pyEq;exact .list_int i t t1 hu
  |str x t=>unfold pyEq;exact .list_str x t t1 hu
  |tup h r t=>unfold pyEq;exact .list_tuple t1 t hu
  |@lst ys p' vs' its' h2 r2 t2=>
   have z1:its.toArray.size=xs.length:=(by rw[MF,<-r1.length,<-h1.length]);have z2:its'.toArray.size=ys.length:=(by rw[MF,<-r2.length,<-h2.length]);have er:=gQ xs ys;by_cases hz:its.toArray.size=its'.toArray.size
   ·have q:=RcNeAt.lists (e:=yL xs ys) t1 t2 hz hu (qj (A:=A.in1) I (by first|rw[<-dG];exact pa|rw[<-eF];exact pa) (by first|rw[<-dG];exact pb|rw[<-eF];exact pb) hd h1 h2 r1 r2 (by rw[in1_units];omega));rw[z1]at q;have hz':xs.length=ys.length:=(by omega);rw[<-hz',Nr]at er;simp only[beq_self_eq_true,Nt]at er;rw[er]at q;unfold pyEq;exact q
   ·have q:=RcNeAt.lists_lengths (A:=A) t1 t2 (by simpa using hz) hu;have hz':(xs.length==ys.length)=false:=by
     rw[z1,z2]at hz
     simpa using hz
    rw[hz',Nu]at er;unfold pyEq;rw[<-er];exact q
end
section
variable{X:Cx}
def rD(K:OZ)(g:D->D->Option D):R2:=λx y H Q=>∃O a b d,dQ H O/\cO K (hid H O) a x/\cO K (hid H O) b y/\g a b=some d/\∀v H',bz H H'->cO K (hid H' O) d v->Q v H'
theorem au{K:OZ}{g:D->D->Option D}:dW K (rD K g) g:=λa b d x y O H Q hO hg ha hb q=>⟨O,a,b,d,hO,ha,hb,hg,q⟩
theorem oo{f : Qg -> Qg -> Sem Qg}{g : D -> D -> Option D}(h : ∀ (pins : List (Qj × Obj)) (s : Qs) (σ : St) (H : Hp) (a b d : D) (x y : V) (u v : Qg), Inv X pins σ H s -> cO X.K H a x -> cO X.K H b y -> RelV x u -> RelV y v -> g a b = some d ->
      ∃c,d=.bl c/\∀(Q:Qg->Qs->Prop),Q (.bool c) s->Qu (model X.prog X.w) X.A (f u v) Q X.xe s):kQ X f (rD X.K g):=by
  intro pins s σ H x y u v Q I rx ry ⟨O,a,b,d,hO,ha,hb,hg,q⟩;obtain⟨c,rfl,hq⟩:=h pins s σ H a b d x y u v I (ha.mono (aI H O)) (hb.mono (aI H O)) rx ry hg;exact hq _ ⟨.bl c,H,I,rfl,q _ H (bz.refl H) (kT.mpr rfl)⟩
def kJ(a b:D):Option D:=if(pl a&&pl b)&&(eK 8 a||eK 8 b)then some (.bl (pyEq a b))else none
def BC(a b:D):Option D:=if(pl a&&pl b)&&(eK 8 a||eK 8 b)then some (.bl (!pyEq a b))else none
theorem cX(hu:X.A.units+64<QQ):kQ X (QJ .Eq) (rD X.K kJ):=oo λpins s σ H a b d x y u v I ha hb ru rv hg=>by
 obtain⟨h1,h2⟩:=bP hg;subst h2;rw[MV,MV,Nv]at h1;exact⟨_,rfl,λQ q=>GA (n:=7) (A:=X.A) I h1.1.1 h1.1.2 h1.2 ha hb ru rv ‹0› X.prog X.w X.xe Q q⟩
theorem BH(hu:X.A.units+64<QQ):kQ X (QJ .NotEq) (rD X.K BC):=oo λpins s σ H a b d x y u v I ha hb ru rv hg=>by
 obtain⟨h1,h2⟩:=bP hg;subst h2;rw[MV,MV,Nv]at h1;exact⟨_,rfl,λQ q=>Br (n:=7) (A:=X.A) I h1.1.1 h1.1.2 h1.2 ha hb ru rv ‹0› X.prog X.w X.xe Q q⟩
def inD(x:D)(ys:List D):Bool:=ys.any λy=>pyEq y x
def Df(x y:D):Option D:=match y with
 |.tup ys=>if(pl x&&mB ys)&&eK 8 x then some (.bl (inD x ys))else none
 |.lst ys=>if(pl x&&mB ys)&&eK 8 x then some (.bl (inD x ys))else none
 |_=>none
def fM(x y:D):Option D:=match y with
 |.tup ys=>if(pl x&&mB ys)&&eK 8 x then some (.bl (!inD x ys))else none
 |.lst ys=>if(pl x&&mB ys)&&eK 8 x then some (.bl (!inD x ys))else none
 |_=>none
open Classical in
theorem zh{pins:List (Qj×Obj)}{σ:St}{H:Hp}{s:Qs}(I:Inv X pins σ H s){xd:D}{x:V}{u:Qg}{A:Qr}(px:pl xd=true)(hd:eK 8 xd=true)(hx:cO X.K H xd x)(ru:RelV x u)(hA:A.units+8<QQ){ys:List D}{vs:List V}{its:List Qg}(py:mB ys=true)(hy:bh X.K H ys vs)(rv:Vals vs its):
  ∃e:Qg->Bool,(∀y,y∈its.toArray->EqAt A s y u (e y))/\its.toArray.any e=inD xd ys:=by
 let e:Qg->Bool:=λy=>decide (∃d w,pl d=true/\cO X.K H d w/\RelV w y/\pyEq d xd=true)
 have he:∀d w y,pl d=true->cO X.K H d w->RelV w y->e y=pyEq d xd:=λd w y h0 h1 h2=>by
  cases hq:pyEq d xd with
  |true=>exact decide_eq_true ⟨d,w,h0,h1,h2,hq⟩
  |false=>
   refine decide_eq_false ?_;rintro⟨d',w',g0,g1,g2,g3⟩;have ew:=RelV.inj h2 g2;subst ew;rw[Inv.den_inj I h0 g0 h1 g1,g3]at hq;cases hq
 refine⟨e,λy hy'=>?_,?_⟩
 ·have hm:y∈its:=by simpa using hy'
  obtain⟨j,hj,rfl⟩:=Nw hm;obtain⟨w,e1,r1⟩:=oq rv (j:=j) (by simpa using hj);obtain⟨d,f1,g1⟩:=om hy e1;have r1':RelV w its[j]:=by simpa using r1
  have pd:=mM py _ (MQ f1);rw[he d w _ pd g1 r1'];exact BF I 8 d xd w x _ u A pd px (.inr hd) g1 hx r1' ru hA
 ·unfold inD;have go:∀(ys:List D)(vs:List V)(its:List Qg),mB ys=true->bh X.K H ys vs->Vals vs its->its.any e=ys.any λy=>pyEq y xd:=by
   intro ys
   induction ys with
   |nil=>
    intro vs its py h r;rw[cU]at h;subst h;cases r;rfl
   |cons y ys ih=>
    intro vs its py h r;unfold mB at py;rw[MV]at py;rw[bE]at h;obtain⟨v,r',e1,h1,h2⟩:=h;subst e1;cases r with
    |cons q1 q2=>rw[M2,M2,he y v _ py.1 h1 q1,ih _ _ py.2 h2 q2]
  rw[List.any_toArray];exact go ys vs its py hy rv
theorem ya(hu:X.A.units+64<QQ):kQ X (QJ .In) (rD X.K Df):=oo λpins s σ H a b d x y u v I ha hb ru rv hg=>by
 cases b with
 |tup ys=>
  obtain⟨h1,h2⟩:=bP hg;subst h2;rw[MV,MV]at h1;rw[cD]at hb;obtain⟨p,vs,e,g1,g2⟩:=hb;subst e;cases rv;obtain⟨its,r,t,_⟩:=I.tuple (oF.of g1);obtain⟨e,he,ea⟩:=zh (A:=X.A.in1) I h1.1.1 h1.2 ha ru (by rw[in1_units];omega) h1.1.2 g2 r;exact⟨_,rfl,λQ q=>SeqAt.in_tupleAt e (show s.heap.IsTuple p its.toArray from t) he (by rw[ea];exact q)⟩
 |lst ys=>
  obtain⟨h1,h2⟩:=bP hg;subst h2;rw[MV,MV]at h1;rw[cE]at hb;obtain⟨p,vs,e,g1,g2⟩:=hb;subst e;cases rv;obtain⟨its,r,t,_⟩:=I.list g1;obtain⟨e,he,ea⟩:=zh (A:=X.A.in1) I h1.1.1 h1.2 ha ru (by rw[in1_units];omega) h1.1.2 g2 r;exact⟨_,rfl,λQ q=>SeqAt.in_listAt e t.isList he (by rw[ea];exact q)⟩
 |_=>cases hg
theorem mS(hu:X.A.units+64<QQ):kQ X (QJ .NotIn) (rD X.K fM):=oo λpins s σ H a b d x y u v I ha hb ru rv hg=>by
 cases b with
 |tup ys=>
  obtain⟨h1,h2⟩:=bP hg;subst h2;rw[MV,MV]at h1;rw[cD]at hb;obtain⟨p,vs,e,g1,g2⟩:=hb;subst e;cases rv;obtain⟨its,r,t,_⟩:=I.tuple (oF.of g1);obtain⟨e,he,ea⟩:=zh (A:=X.A.in1) I h1.1.1 h1.2 ha ru (by rw[in1_units];omega) h1.1.2 g2 r;exact⟨_,rfl,λQ q=>SeqAt.notIn_tupleAt e (show s.heap.IsTuple p its.toArray from t) he (by rw[ea];exact q)⟩
 |lst ys=>
  obtain⟨h1,h2⟩:=bP hg;subst h2;rw[MV,MV]at h1;rw[cE]at hb;obtain⟨p,vs,e,g1,g2⟩:=hb;subst e;cases rv;obtain⟨its,r,t,_⟩:=I.list g1;obtain⟨e,he,ea⟩:=zh (A:=X.A.in1) I h1.1.1 h1.2 ha ru (by rw[in1_units];omega) h1.1.2 g2 r;exact⟨_,rfl,λQ q=>SeqAt.notIn_listAt e t.isList he (by rw[ea];exact q)⟩
 |_=>cases hg
def E8(p:Int->Int->D)(a b:D):Option D:=match a,b with
 |.int i,.int j=>some (p i j)
 |_,_=>none
def L3:=E8 λi j=>.bl (decide (i<j))
def L5:=E8 λi j=>.bl (decide (i<=j))
def KZ:=E8 λi j=>.bl (decide (j<i))
def L1:=E8 λi j=>.bl (decide (j<=i))
theorem AX{K:OZ}{g:Int->Int->Bool}:dW K (CN λi j=>.bl (g i j)) (E8 λi j=>.bl (g i j)):=λa b d x y O H Q hO hg ha hb q=>by
 cases a with
 |int i=>
  cases b with
  |int j=>cases hg;exact⟨i,j,eZ.mp ha,eZ.mp hb,q _ H (bz.refl H) (kT.mpr rfl)⟩
  |_=>cases hg
 |_=>cases hg
theorem qJ{K:OZ}{g:Int->Int->Int}:dW K (CN λi j=>.int (g i j)) (E8 λi j=>.int (g i j)):=λa b d x y O H Q hO hg ha hb q=>by
 cases a with
 |int i=>
  cases b with
  |int j=>cases hg;exact⟨i,j,eZ.mp ha,eZ.mp hb,q _ H (bz.refl H) (eZ.mpr rfl)⟩
  |_=>cases hg
 |_=>cases hg
def Hu(c:Int->Int->Bool)(p:Int->Int->Int)(a b:D):Option D:=match a,b with
 |.int i,.int j=>if c i j then some (.int (p i j))else none
 |_,_=>none
theorem jK{K:OZ}{C:Int->Int->Prop}{c:Int->Int->Bool}{g:Int->Int->Int}(hc:∀i j,c i j=true->C i j):dW K (rI C λi j=>.int (g i j)) (Hu c g):=λa b d x y O H Q hO hg ha hb q=>by
 cases a with
 |int i=>
  cases b with
  |int j=>
   obtain⟨h1,h2⟩:=bP hg;subst h2;exact⟨i,j,eZ.mp ha,eZ.mp hb,hc i j h1,q _ H (bz.refl H) (eZ.mpr rfl)⟩
  |_=>cases hg
 |_=>cases hg
def AK:=E8 λi j=>.int (i-j)
def nQ:=Hu (λi j=>decide ((-(2^64)<i/\i<2^64)\/(-(2^64)<j/\j<2^64))) (·*·)
def Fa(_ j:Int):Prop:=0<j/\j<10^200
theorem bf:kQ X (QI .FloorDiv) (rI Fa λi j=>.int (i/j)):=HR λi j _ _ _ _ _ hc q=>by
 have h1:(0:Int)<j:=hc.1;have h2:j<10^200:=hc.2;refine PyProof.Rows.floordiv_int ‹0› (by rw[ME i ‹0›];exact q) (.inl (PyProof.noPylong_of_log2 ?_));have h3:j.natAbs<10^200:=by omega
 rw[Nat.log2_lt ‹0›];exact M9 h3 (by decide +kernel)
def cW:=Hu (λ_ j=>decide (0<j/\j<10^200)) (·/·)
def cq:=Hu (λ_ j=>decide (0<j)) (·%·)
def jU:=Hu (λi j=>decide (0<=j/\j<=1000000/\i.natAbs<2^64)) λi j=>i^j.toNat
theorem qT{K:OZ}:dW K (CN λi j=>.int (i-j)) AK:=qJ
theorem ko{K:OZ}:dW K (rI G3 λi j=>.int (i*j)) nQ:=jK λi j h=>by have q:=of_decide_eq_true h;exact q
theorem bM{K:OZ}:dW K (rI Fa λi j=>.int (i/j)) cW:=jK λi j h=>by have q:=of_decide_eq_true h;exact q
theorem bn{K:OZ}:dW K (rI (λ_ j=>0<j) λi j=>.int (i%j)) cq:=jK λ_ _ h=>of_decide_eq_true h
theorem gz{K:OZ}:dW K (rI IP λi j=>.int (i^j.toNat)) jU:=jK λi j h=>by have q:=of_decide_eq_true h;exact q
def IB(K:OZ):R2:=λx y H Q=>∃l b xs zs,x=.ref l/\y=.ref b/\nG K H l xs/\nG K H b zs/\xs.length+zs.length<=Qm/\∀p,H p=none->Q (.ref p) (upd H p (.lst (xs++zs)))
theorem Dj:kQ X (QI .Add) (IB X.K):=by
 intro pins s σ H x y v u Q I rx ry h;obtain⟨l,b,xs,zs,rfl,rfl,hH,hB,hz,q⟩:=h;cases rx;cases ry;obtain⟨its,r,t1,_⟩:=I.list hH;obtain⟨its2,r2,t2,_⟩:=I.list hB;obtain⟨⟨c1,d1,dt1,sl1⟩,n1,ho,hc,hd,hdt⟩:=t1;obtain⟨⟨c2,d2,dt2,sl2⟩,n2,ho2,hc2,hd2,hdt2⟩:=t2;simp only at hc hd hdt hc2 hd2 hdt2;subst hc hd hdt hc2 hd2 hdt2;have z1:=r.length;have z2:=r2.length;refine QW ⟨_,ho,rfl⟩ ⟨_,ho2,rfl⟩ noFill_list_add seq_list_add F.slot_list_add F.entry_list_add (F.args_list_add_2 _ _) (PyProof.Rows.list_addW l b its.toArray its2.toArray n1 n2 none none sl1 sl2 (by rw[MF,MF];omega)) ⟨ho,ho2,?_⟩;have ea:its.toArray++its2.toArray=(its++its2).toArray:=by simp
 rw[ea];exact⟨.ref _,_,I.lnew (t':=s.toks) (r.append r2) (by rw[MR];omega),rfl,q _ I.fresh⟩
def Fv(K:OZ):R2:=λx y H Q=>∃a b xs ys,x=.ref a/\y=.ref b/\oF K H a xs/\oF K H b ys/\xs.length+ys.length<=Qm/\
 (xs=[]->Q (.ref b) H)/\(xs≠[]->ys=[]->Q (.ref a) H)/\(xs≠[]->ys≠[]->∀p,H p=none->Q (.ref p) (upd H p (.tup (xs++ys))))
theorem Cu:kQ X (QI .Add) (Fv X.K):=by
 intro pins s σ H x y v u Q I rx ry h;obtain⟨a,b,xs,ys,ex,ey,ha,hb,hz,q0,q1,q2⟩:=h;by_cases hx:xs=[]
 ·subst ex ey;cases rx;cases ry;obtain⟨its,r1,p1,_⟩:=I.tuple ha;obtain⟨its2,r2,p2,_⟩:=I.tuple hb;obtain⟨⟨cls,dd,data,sl⟩,ho,hc,n,hd⟩:=id p1;obtain⟨⟨cls2,dd2,data2,sl2⟩,ho2,hc2,n2,hd2⟩:=id p2;simp only at hc hd hc2 hd2;subst hc hd hc2 hd2;have e:its=[]:=r1.nil_iff.mpr hx;exact QW ⟨_,ho,rfl⟩ ⟨_,ho2,rfl⟩ QX QY F.slot_tuple_add F.entry_tuple_add (F.args_tuple_add_2 _ _)
   (PyProof.Rows.tuple_addW0 a b its.toArray its2.toArray n n2 dd dd2 sl sl2 (by rw[e];rfl)) ⟨ho,ho2,⟨.ref b,H,I,rfl,q0 hx⟩⟩
 ·exact Ek pins s σ H x y v u Q I rx ry ⟨a,b,xs,ys,ex,ey,ha,hb,hx,hz,q1 hx,q2 hx⟩
def bK(a b:D):Option D:=match a,b with
 |.int i,.int j=>some (.int (i+j))
 |.str x,.str y=>if small (x.length+y.length)then some (.str (x++y))else none
 |.lst xs,.lst ys=>if small (xs.length+ys.length)then some (.lst (xs++ys))else none
 |.tup xs,.tup ys=>if small (xs.length+ys.length)then some (.tup (xs++ys))else none
 |_,_=>none
theorem aR:kQ X (QI .Add) (rD X.K bK):=by
 intro pins s σ H x y u v Q I rx ry ⟨O,a,b,d,hO,ha,hb,hg,q⟩;cases a with
 |int i=>
  cases b with
  |int j=>
   cases hg;exact GK pins s σ H x y u v Q I rx ry ⟨i,j,eZ.mp ha,eZ.mp hb,q _ H (bz.refl H) (eZ.mpr rfl)⟩
  |_=>cases hg
 |str i=>
  cases b with
  |str j=>
   obtain⟨h1,h2⟩:=bP hg;subst h2;exact yD pins s σ H x y u v Q I rx ry ⟨i,j,e9.mp ha,e9.mp hb,eD h1,q _ H (bz.refl H) (e9.mpr rfl)⟩
  |_=>cases hg
 |lst xs=>
  cases b with
  |lst ys=>
   obtain⟨h1,h2⟩:=bP hg;subst h2;rw[cE]at ha hb;obtain⟨p,vs,ex,g1,g2⟩:=ha;obtain⟨p',vs',ey,g1',g2'⟩:=hb;refine Dj pins s σ H x y u v Q I rx ry ⟨p,p',vs,vs',ex,ey,(aI H O).seq g1,(aI H O).seq g1',?_,λr hr=>?_⟩
   ·rw[<-g2.length,<-g2'.length];exact eD h1
   ·exact q _ _ (bW hr _) (dh hO hr (g2.append g2'))
  |_=>cases hg
 |tup xs=>
  cases b with
  |tup ys=>
   obtain⟨h1,h2⟩:=bP hg;subst h2;have da:=ha;have db:=hb;rw[cD]at ha hb;obtain⟨p,vs,ex,g1,g2⟩:=ha;obtain⟨p',vs',ey,g1',g2'⟩:=hb;have l1:=g2.length;have l2:=g2'.length;refine Cu pins s σ H x y u v Q I rx ry ⟨p,p',vs,vs',ex,ey,bZ (aI H O) g1,bZ (aI H O) g1',?_,λz=>?_,λz z'=>?_,λz z' r hr=>?_⟩
   ·rw[<-l1,<-l2];exact eD h1
   ·have e:xs=[]:=List.length_eq_zero_iff.mp (by rw[l1,z];rfl);rw[<-ey];refine q _ H (bz.refl H) ?_;rw[e,Nx];exact db
   ·have e:ys=[]:=List.length_eq_zero_iff.mp (by rw[l2,z'];rfl);rw[<-ex];refine q _ H (bz.refl H) ?_;rw[e,MJ];exact da
   ·exact q _ _ (bW hr _) (fD hO hr (g2.append g2'))
  |_=>cases hg
 |_=>cases hg
def aE(a b:D):Option D:=match a,b with
 |.tup xs,.int i=>nI xs i
 |.lst xs,.int i=>nI xs i
 |.str x,.int i=>if small x.length then(nI x.cps.toList i).bind λc=>some (.str ⟨#[c]⟩)else none
 |_,_=>none
theorem yS{K:OZ}{H:Hp}{ds:List D}{vs:List V}{i:Int}{d:D}(h:bh K H ds vs)(e:nI ds i=some d):∃v,nI vs i=some v/\cO K H d v:=by
 unfold nI at e ⊢;obtain⟨j,e1,e2⟩:=bind_some e;rw[<-h.length,e1];exact h.get e2
theorem Km:HU X (rD X.K aE):=by
 intro value slice pins s σ H x y u v Q I rx ry ⟨O,a,b,d,hO,ha,hb,hg,q⟩ hsub;cases a with
 |tup xs=>
  cases b with
  |int i=>
   rw[cD]at ha;obtain⟨p,vs,ex,g1,g2⟩:=ha;obtain⟨w,e1,e2⟩:=yS g2 hg;refine GP value slice pins s σ H x y u v Q I rx ry ?_ hsub;exact⟨p,vs,i,w,ex,eZ.mp hb,bZ (aI H O) g1,e1,q w H (bz.refl H) e2⟩
  |_=>cases hg
 |lst xs=>
  cases b with
  |int i=>
   rw[cE]at ha;obtain⟨p,vs,ex,g1,g2⟩:=ha;obtain⟨w,e1,e2⟩:=yS g2 hg;refine zD value slice pins s σ H x y u v Q I rx ry ?_ hsub;exact⟨p,vs,i,w,ex,eZ.mp hb,(aI H O).seq g1,e1,q w H (bz.refl H) e2⟩
  |_=>cases hg
 |str z=>
  cases b with
  |int i=>
   have hg':(if small z.length then(nI z.cps.toList i).bind λc=>some (D.str ⟨#[c]⟩)else none)=some d:=hg;cases hs:small z.length with
   |false=>rw[hs]at hg';cases hg'
   |true=>
    rw[hs]at hg';obtain⟨c,e1,e2⟩:=bind_some hg';cases e2;refine Fx value slice pins s σ H x y u v Q I rx ry ?_ hsub;exact⟨z,i,c,e9.mp ha,eZ.mp hb,eD hs,e1,q _ H (bz.refl H) (e9.mpr rfl)⟩
  |_=>cases hg
 |_=>cases hg
theorem LD{a b:Qv}{fa fb:FX}{pos:Pos}(ha:FE X a fa)(hb:FE X b fb)(hs:nT b):FE X (.Subscript a b pos) (f2 aE fa fb):=
 PE.weak (EC Km ha hb hs) (vi au)
def cutD{α:Type}(xs:List α)(lo hi:Option Int):List α:=(xs.drop (HT.sIx xs.length 0 lo)).take (HT.sIx xs.length xs.length hi-HT.sIx xs.length 0 lo)
theorem sy{M:Model}{A:Qr}{E:Qg->Qs->Prop}{s:Qs}{t:Qj}{items:Array Qg}{Q:Bool->Qs->Prop}(ht:PZ s.heap t items)(h:Q true s):Qu M A (Builtin.Tuple.tupleIsExact (.ref t)) Q E s:=by
 unfold Builtin.Tuple.tupleIsExact;refine QD (Q4 ht.typeIs ?_);exact QC h
theorem iu{prog:Qi}{w:Qh}{A:Qr}{E:Qg->Qs->Prop}{s:Qs}{t sl:Qj}{items:Array Qg}{vl vu:Qg}{lo hi:Option Int}{Q:Qg->Qs->Prop}(ht:PZ s.heap t items)(hs:s.heap.IsSliceOf sl vl vu .none)(pl:QZ vl lo)(pu:QZ vu hi)
  (hw:HT.sIx items.size 0 lo=0/\HT.sIx items.size items.size hi=items.size) (h:Q (.ref t) s):Qu (model prog w) A (getItem (.ref t) (.ref sl)) Q E s:=by
 obtain⟨os,hos,hcs,hds⟩:=id hs;have hTs:s.TypeIs (.ref sl) "slice":=⟨os,hos,hcs⟩
 unfold getItem
 try with_reducible refine Q1 ?_
 first|refine QD (QC ?_)|skip
 refine QD (wpAny_sequenceKey ht.typeIs (by decide) ?_);refine QD (Q2 (name:=Str.ofString "__getitem__") ht.typeIs PX
  (Q3 PX ht.typeIs PyProof.Rows.entry_tuple_getitem ?_ (PyProof.Rows.args_tuple_getitem _ _)))
 show Qu _ _ (Builtin.Tuple.tupleItemsOf (.ref t) >>= _) _ _ s;refine QD (PyProof.Rows.tupleItemsOf_ ht ?_);refine QD (Q4 hTs ?_);rw[if_pos (by decide)];refine QD (HT.o7 hs pl pu ?_);have hyes:(((HT.sIx items.size 0 lo:Nat):Int)==0&&(1:Int)==1&&(HT.sIx items.size items.size hi-HT.sIx items.size 0 lo)==items.size)=true:=by
  rw[hw.1,hw.2];simp
 show Qu _ _ (if(((HT.sIx items.size 0 lo:Nat):Int)==0&&(1:Int)==1&&(HT.sIx items.size items.size hi-HT.sIx items.size 0 lo)==items.size)=true then _ else _) _ _ s;rw[if_pos hyes];refine QD (sy ht ?_);rw[if_pos rfl]
 first
  |exact QD (Rf (QC ⟨_,rfl,QC h⟩))
  |exact QD (Rf (QD (QC (QC ⟨_,rfl,QC h⟩))))
def rF(a:D)(lo hi:Option Int):Option D:=match a with
 |.lst xs=>some (.lst (cutD xs lo hi))
 |.tup xs=>some (.tup (cutD xs lo hi))
 |.str x=>if small x.length then some (.str ⟨(cutD x.cps.toList lo hi).toArray⟩)else none
 |_=>none
theorem Fp(v:Option Int)(d n:Nat)(hd:d<=n):(match v with|none=>(d:Int)|some i=>if(1:Int)>0 then max 0 (min (if i<0 then i+(n:Int)else i) (n:Int))else max (-1) (min (if i<0 then i+(n:Int)else i) ((n:Int)-1)))=((HT.sIx n d v:Nat):Int):=by
 cases v with
 |none=>rfl
 |some i=>
  show(if(1:Int)>0 then max 0 (min (if i<0 then i+(n:Int)else i) (n:Int))else max (-1) (min (if i<0 then i+(n:Int)else i) ((n:Int)-1)))=(((if i<0 then(i+(n:Int)).toNat else min i.toNat n):Nat):Int)
  rw[if_pos (by decide)];by_cases h:i<0
  ·rw[if_pos h,if_pos h];omega
  ·rw[if_neg h,if_neg h];omega
theorem Cw(lo hi:Option Int)(n:Nat):Builtin.Str.strSliceIndices lo hi 1 n=(List.range (HT.sIx n n hi-HT.sIx n 0 lo)).map λk=>HT.sIx n 0 lo+k:=by
 have e1:=Fp lo 0 n (MI _);have e2:=Fp hi n n (MC _);have e:Builtin.Str.strSliceIndices lo hi 1 n=sliceRange ((HT.sIx n 0 lo:Nat):Int) ((HT.sIx n n hi:Nat):Int) 1:=by
  rw[<-e1,<-e2];cases lo<;>cases hi<;>rfl
 rw[e];unfold sliceRange;dsimp only;rw[if_pos (by decide:(1:Int)>0)];have e3:(if((HT.sIx n 0 lo:Nat):Int)<((HT.sIx n n hi:Nat):Int)then(((HT.sIx n n hi:Nat):Int)-((HT.sIx n 0 lo:Nat):Int)+1-1)/1 else 0:Int).toNat=HT.sIx n n hi-HT.sIx n 0 lo:=by
  rw[Int.ediv_one];split<;>omega
 rw[e3];refine Ny λk _=>?_;omega
theorem CQ{α:Type}(l:List α)(a:Nat):∀n:Nat,((List.range n).map λk=>a+k).filterMap (λi=>l[i]?)=(l.drop a).take n
 |0=>by simp
 |n+1=>by
  rw[List.range_succ,Nz,List.filterMap_append,CQ l a n,List.take_add_one,List.getElem?_drop];cases e:l[a+n]?<;>simp[e]
theorem zO(x:Str)(lo hi:Option Int):Txt.slice x lo hi=⟨(cutD x.cps.toList lo hi).toArray⟩:=by
 have hl:x.cps.toList.length=x.length:=by simp[Str.length]
 have pick:(Builtin.Str.strSliceIndices lo hi 1 x.length).filterMap (x.cps[·]?)=cutD x.cps.toList lo hi:=by
  rw[Cw];have q:=CQ x.cps.toList (HT.sIx x.length 0 lo) (HT.sIx x.length x.length hi-HT.sIx x.length 0 lo);unfold cutD;rw[hl,<-q];congr 1;funext i;simp
 unfold Txt.slice;split
 ·rename_i h;have h':(Builtin.Str.strSliceIndices lo hi 1 x.length).length=x.length:=by simpa using h
  rw[Cw,MS,NB]at h';have h1:=HT.Gj x.length x.length (MC _) hi;have z1:HT.sIx x.length 0 lo=0\/x.length=0:=by omega
  have e:cutD x.cps.toList lo hi=x.cps.toList:=by
   unfold cutD;rw[hl,h'];rcases z1 with z1|z1
   ·rw[z1,Nm,<-hl,NC]
   ·have:x.cps.toList=[]:=List.length_eq_zero_iff.mp (by rw[hl];exact z1)
    rw[this];simp
  rw[e]
 ·rw[pick]
def Kg(K:OZ):V->Option Int->Option Int->Hp->VK->Prop:=λx lo hi H Q=>∃O a d,dQ H O/\cO K (hid H O) a x/\rF a lo hi=some d/\∀v H',bz H H'->cO K (hid H' O) d v->Q v H'
theorem bh.cut{K:OZ}{H:Hp}{ds:List D}{vs:List V}(h:bh K H ds vs)(lo hi:Option Int):bh K H (cutD ds lo hi) (wD vs lo hi):=by
 unfold cutD wD;rw[h.length];exact(h.drop _).take _
theorem JN:Jr X (Kg X.K):=by
 intro pins s σ H x v vl vu lo hi sl Q I rx hs pl pu ⟨O,a,d,hO,ha,hg,q⟩;cases a with
 |lst xs=>
  cases hg;rw[cE]at ha;obtain⟨p,vs,ex,g1,g2⟩:=ha;exact Dk pins s σ H x v vl vu lo hi sl Q I rx hs pl pu ⟨p,vs,ex,(aI H O).seq g1,λr hr=>q _ _ (bW hr _) (dh hO hr (g2.cut lo hi))⟩
 |tup xs=>
  cases hg;have da:=ha;rw[cD]at ha;obtain⟨p,vs,ex,g1,g2⟩:=ha;by_cases hw:HT.sIx vs.length 0 lo=0/\HT.sIx vs.length vs.length hi=vs.length
  ·subst ex;cases rx;obtain⟨its,r,ht,hz⟩:=I.tuple (bZ (aI H O) g1);have hlen:its.toArray.size=vs.length:=(by rw[MF];exact r.length.symm);refine⟨"tuple",_,PyProof.Rows.slot_tuple_getitem.lookup,ht.typeIs,iu ht hs pl pu (by rw[hlen];exact hw) ⟨.ref p,H,I,rfl,q _ H (bz.refl H) ?_⟩⟩;have e:cutD xs lo hi=xs:=by
    unfold cutD;rw[g2.length,hw.1,hw.2,ND,Nm,<-g2.length,NC]
   rw[e];exact da
  ·exact GH pins s σ H x v vl vu lo hi sl Q I rx hs pl pu ⟨p,vs,ex,bZ (aI H O) g1,hw,λr hr=>q _ _ (bW hr _) (fD hO hr (g2.cut lo hi))⟩
 |str z=>
  obtain⟨h1,h2⟩:=bP hg;subst h2;rw[e9]at ha;subst ha;obtain⟨t,rfl⟩:=rx;have fin:∀t' tk,EP X pins σ Q (.str (Txt.slice z lo hi) t') {s with toks:=tk}:=λt' tk=>by
   rw[zO];exact⟨.str _,H,I.tok _,⟨_,rfl⟩,q _ H (bz.refl H) (e9.mpr rfl)⟩
  obtain⟨os,hos,hcs,hds⟩:=id hs;have hz:=eD h1;refine⟨"str",_,F.slot_str_getitem.lookup,typeIs_str _ _ _,?_⟩;cases pl with
  |none=>
   cases pu with
   |none=>exact Rg (l:=none) (u:=none) (st:=none) ⟨os,hos,hcs,hds⟩ rfl (Rh ⟨Mr (Txt.slice_le z _ _) hz,λt' k=>fin t' k⟩)
   |int j tj=>exact Rg (l:=none) (u:=some (j,tj)) (st:=none) ⟨os,hos,hcs,hds⟩ rfl (Rh ⟨Mr (Txt.slice_le z _ _) hz,λt' k=>fin t' k⟩)
  |int i ti=>
   cases pu with
   |none=>exact Rg (l:=some (i,ti)) (u:=none) (st:=none) ⟨os,hos,hcs,hds⟩ rfl (Rh ⟨Mr (Txt.slice_le z _ _) hz,λt' k=>fin t' k⟩)
   |int j tj=>exact Rg (l:=some (i,ti)) (u:=some (j,tj)) (st:=none) ⟨os,hos,hcs,hds⟩ rfl (Rh ⟨Mr (Txt.slice_le z _ _) hz,λt' k=>fin t' k⟩)
 |_=>cases hg
def aY:aw->R (Option Int):=λ_=>.ok none
def xJ:D->Option (Option Int)
 |.int i=>some (some i)
 |_=>none
def bV(f:FX):aw->R (Option Int):=λρ=>(f ρ).bind λd=>rO (xJ d)
def Mg(X:Cx)(F:aw->R (Option Int)):TO:=λσ H Q=>∃O ρ,dU X.K O H ρ σ/\iX X σ O H (F ρ) λo=>∀H',bz H H'->Q o H'
def FO(X:Cx)(e:Option Qv)(F:aw->R (Option Int)):Prop:=PO X e (Mg X F)
theorem Js:FO X none aY:=λpins s σ H Q I ⟨O,ρ,E,q⟩=>DG pins s σ H Q I (q H (bz.refl H))
theorem Jh{e:Qv}{f:FX}(h:FE X e f):FO X (some e) (bV f):=λpins s σ H Q I ⟨O,ρ,E,hF⟩=>
 D9 h pins s σ H Q I ⟨O,ρ,E,(iX.bind hF).imp λd hF v H1 s1 d1=>by
  obtain⟨o,e,q⟩:=iX.rO hF;cases d with
  |int i=>
   cases e;exact⟨i,eZ.mp d1,q H1 s1⟩
  |_=>cases e⟩
def bw(f:FX)(l h:aw->R (Option Int)):FX:=λρ=>(f ρ).bind λa=>(l ρ).bind λlo=>(h ρ).bind λhi=>rO (rF a lo hi)
theorem HG{e:Qv}{f:FX}{l h:aw->R (Option Int)}{lo hi:Option Qv}{p2 pos:Pos}(he:FE X e f)(hl:FO X lo l)(hh:FO X hi h):FE X (.Subscript e (.Slice lo hi none p2) pos) (bw f l h):=
 PE.weak (B3 JN he hl hh) λσ H Q ⟨O,ρ,E,hF⟩=>⟨O,ρ,E,(iX.bind hF).imp λa hF x H1 s1 d1=>⟨O,ρ,E.same s1,((iX.bind hF).mono s1).imp λlo' hF H2 s2=>⟨O,ρ,E.same (s1.trans s2),((iX.bind hF).mono (s1.trans s2)).imp λhi' hF H3 s3=>by
  obtain⟨d,e,q⟩:=iX.rO hF;exact⟨O,a,d,E.all.same ((s1.trans s2).trans s3),d1.mono (cw (s2.trans s3)),e,λv H4 s4 d4=>q v H4 (((s1.trans s2).trans s3).trans s4) d4⟩⟩⟩⟩
end
end TG
namespace TG
open PySem PySem.Spec L2
variable[bc]
def xD(K:OZ)(g:List D->Option D):List V->Hp->VK->Prop:=λxs H Q=>∃O ds d,dQ H O/\bh K (hid H O) ds xs/\g ds=some d/\∀v H',bz H H'->cO K (hid H' O) d v->Q v H'
theorem qV{K:OZ}{g:List D->Option D}:zF K (xD K g) g:=λds d xs O H Q hO hg hd q=>⟨O,ds,d,hO,hd,hg,q⟩
section
variable{X:Cx}{x:Str}{p pos:Pos}{e:Qv}{es:List Qv}{id T:String}{g:List D->Option D}{f:aw->R (List D)}
theorem HH(hc:dN X (.builtin id) (xD X.K g))(hg:Gl X x)(hm:X.mg x=none)(hv:Qq x=some (.builtin id))(ha:FA X (e::es) f)(hn:x≠"__name__":=by decide)(hdb:(x==("__debug__":Str))=false:=by decide)
  (hns:(e::es).all noStar=true:=by rfl):FE X (.Call (.Name x p) (e::es) [] pos) (fL g f):=
 PE.weak (vQ hc hg hm hv ha hn hdb (e7 (MV _ _ ▸ hns).1) (iN (MV _ _ ▸ hns).2)) (CF qV)
theorem Hm(hc:dN X (.type T) (xD X.K g))(hg:Gl X x)(hm:X.mg x=none)(hv:Qq x=some (.type T))(ha:FA X (e::es) f)(hn:x≠"__name__":=by decide)(hdb:(x==("__debug__":Str))=false:=by decide)
  (hns:(e::es).all noStar=true:=by rfl):FE X (.Call (.Name x p) (e::es) [] pos) (fL g f):=
 PE.weak (Ao hc hg hm hv ha hn hdb (e7 (MV _ _ ▸ hns).1) (iN (MV _ _ ▸ hns).2)) (CF qV)
def ig:List D->Option D
 |[.lst xs]=>some (.int xs.length)
 |[.tup xs]=>some (.int xs.length)
 |[.str x]=>if small x.length then some (.int x.length)else none
 |_=>none
theorem bY:dN X (.builtin "len") (xD X.K ig):=by
 intro pins s σ H xs us Q I r ⟨O,ds,d,hO,hd,hg,q⟩;unfold ig at hg;split at hg
 ·rename_i ys;cases hg;obtain⟨v,ev,h1⟩:=hd.one;rw[cE]at h1;obtain⟨p,vs,ep,g1,g2⟩:=h1;exact nY pins s σ H xs us Q I r ⟨p,vs,by rw[ev,ep],.inl ((aI H O).seq g1),q _ H (bz.refl H) (eZ.mpr (by rw[g2.length]))⟩
 ·rename_i ys;cases hg;obtain⟨v,ev,h1⟩:=hd.one;rw[cD]at h1;obtain⟨p,vs,ep,g1,g2⟩:=h1;exact nY pins s σ H xs us Q I r ⟨p,vs,by rw[ev,ep],.inr (bZ (aI H O) g1),q _ H (bz.refl H) (eZ.mpr (by rw[g2.length]))⟩
 ·rename_i z;obtain⟨h1,h2⟩:=bP hg;subst h2;obtain⟨v,ev,h1'⟩:=hd.one;exact uA pins s σ H xs us Q I r ⟨z,by rw[ev,e9.mp h1'],eD h1,q _ H (bz.refl H) (eZ.mpr rfl)⟩
 ·cases hg
def cA:List D->Option D
 |[.lst xs]=>some (.tup xs)
 |[.tup xs]=>some (.tup xs)
 |_=>none
theorem bX:dN X (.type "tuple") (xD X.K cA):=by
 intro pins s σ H xs us Q I r ⟨O,ds,d,hO,hd,hg,q⟩;unfold cA at hg;split at hg
 ·rename_i ys;cases hg;obtain⟨v,ev,h1⟩:=hd.one;rw[cE]at h1;obtain⟨p,vs,ep,g1,g2⟩:=h1;exact mZ pins s σ H xs us Q I r ⟨p,vs,by rw[ev,ep],.inl ⟨(aI H O).seq g1,λl hl=>q _ _ (bW hl _) (fD hO hl g2)⟩⟩
 ·rename_i ys;cases hg;obtain⟨v,ev,h1⟩:=hd.one;have h0:=h1;rw[cD]at h1;obtain⟨p,vs,ep,g1,g2⟩:=h1;rw[ep]at h0;exact mZ pins s σ H xs us Q I r ⟨p,vs,by rw[ev,ep],.inr ⟨bZ (aI H O) g1,q _ H (bz.refl H) h0⟩⟩
 ·cases hg
def y4:List D->Option D
 |[.lst xs]=>some (.lst xs)
 |[.tup xs]=>some (.lst xs)
 |_=>none
theorem yg:dN X (.type "list") (xD X.K y4):=by
 intro pins s σ H xs us Q I r ⟨O,ds,d,hO,hd,hg,q⟩;unfold y4 at hg;split at hg
 ·rename_i ys;cases hg;obtain⟨v,ev,h1⟩:=hd.one;rw[cE]at h1;obtain⟨p,vs,ep,g1,g2⟩:=h1;exact og pins s σ H xs us Q I r ⟨p,vs,by rw[ev,ep],.inl ((aI H O).seq g1),λl hl=>q _ _ (bW hl _) (dh hO hl g2)⟩
 ·rename_i ys;cases hg;obtain⟨v,ev,h1⟩:=hd.one;rw[cD]at h1;obtain⟨p,vs,ep,g1,g2⟩:=h1;exact og pins s σ H xs us Q I r ⟨p,vs,by rw[ev,ep],.inr (bZ (aI H O) g1),λl hl=>q _ _ (bW hl _) (dh hO hl g2)⟩
 ·cases hg
def pQ:List D->Option D
 |[.int i,.int j]=>some (.int (if j>i then j else i))
 |_=>none
def sY:List D->Option D
 |[.int i,.int j]=>some (.int (if j<i then j else i))
 |_=>none
def y8:List D->Option D
 |[.int i]=>some (.int i)
 |[.bl k]=>some (.int (if k then 1 else 0))
 |_=>none
theorem nu(hc:X.calm=true):dN X (.builtin "max") (xD X.K pQ):=by
 intro pins s σ H xs us Q I r ⟨O,ds,d,hO,hd,hg,q⟩;unfold pQ at hg;split at hg
 ·rename_i i j;cases hg;obtain⟨v,w,ev,h1,h2⟩:=hd.two;exact A0 hc pins s σ H xs us Q I r ⟨i,j,by rw[ev,eZ.mp h1,eZ.mp h2],q _ H (bz.refl H) (eZ.mpr rfl)⟩
 ·cases hg
theorem qG(hc:X.calm=true):dN X (.builtin "min") (xD X.K sY):=by
 intro pins s σ H xs us Q I r ⟨O,ds,d,hO,hd,hg,q⟩;unfold sY at hg;split at hg
 ·rename_i i j;cases hg;obtain⟨v,w,ev,h1,h2⟩:=hd.two;exact zN hc pins s σ H xs us Q I r ⟨i,j,by rw[ev,eZ.mp h1,eZ.mp h2],q _ H (bz.refl H) (eZ.mpr rfl)⟩
 ·cases hg
theorem yB:dN X (.type "int") (xD X.K y8):=by
 intro pins s σ H xs us Q I r ⟨O,ds,d,hO,hd,hg,q⟩;unfold y8 at hg;split at hg
 ·rename_i i;cases hg;obtain⟨v,ev,h1⟩:=hd.one;exact tM pins s σ H xs us Q I r (.inl ⟨i,by rw[ev,eZ.mp h1],q _ H (bz.refl H) (eZ.mpr rfl)⟩)
 ·rename_i k;cases hg;obtain⟨v,ev,h1⟩:=hd.one;exact tM pins s σ H xs us Q I r (.inr ⟨k,by rw[ev,kT.mp h1],q _ H (bz.refl H) (eZ.mpr rfl)⟩)
 ·cases hg
def Gs:D->String
 |.non=>"NoneType"
 |.bl _=>"bool"
 |.int _=>"int"
 |.str _=>"str"
 |.tup _=>"tuple"
 |.lst _=>"list"
 |.dct _ _=>"dict"
 |_=>""
def DB(T:String)(d:D):Bool:=match d with
 |.bl _=>T=="bool"||T=="int"
 |.non=>T=="NoneType"
 |.int _=>T=="int"
 |.str _=>T=="str"
 |.tup _=>T=="tuple"
 |.lst _=>T=="list"
 |.dct _ _=>T=="dict"
 |_=>false
def wz(K:OZ)(T:String):Prop:=∀d:D,top d=true->Pn K (.type (Gs d)) (.type T)=some (DB T d)
def J2(K:OZ)(T:String):List V->Hp->VK->Prop:=λxs H Q=>∃O x d,xs=[x,.ty T]/\top d=true/\cO K (hid H O) d x/\Q (.bl (DB T d)) H
theorem CG(ok:wz X.K T):dN X (.builtin "isinstance") (J2 X.K T):=by
 intro pins s σ H xs us Q I r ⟨O,x,d,ex,td,hd,q⟩;subst ex;obtain⟨u,w',rfl,rx,rt⟩:=vals2 r;cases rt;have e:=ok d td;have fin:∀tk,EP X pins σ Q (.bool (DB T d)) {s with toks:=tk}:=λtk=>⟨.bl _,H,I.tok _,rfl,q⟩
 cases fA I td (hd.mono (aI H O)) rx with
 |non=>exact Pp PySem.W.kitx_none I.kIn True.intro e (λz=>nomatch z) fin
 |bl b=>exact Pp PySem.W.kitx_bool I.kIn True.intro e (λz=>nomatch z) fin
 |int i t=>exact Pp PySem.W.kitx_int I.kIn True.intro e (λz=>nomatch z) fin
 |str y t=>exact Pp PySem.W.kitx_str I.kIn True.intro e (λz=>nomatch z) fin
 |tup h rv t=>
  obtain⟨o,h1,h2,_⟩:=t;exact Pp PySem.W.kitx_tuple I.kIn ⟨o,h1,h2⟩ e (λz=>nomatch z) fin
 |lst h rv t=>
  obtain⟨o,h1,h2,_⟩:=t;exact Pp PySem.W.kitx_list I.kIn ⟨o,h1,h2⟩ e (λz=>nomatch z) fin
theorem Cb:Qq "isinstance"=some (.builtin "isinstance"):=by first|rfl|decide +kernel
def n8(T:String)(d:D):Option D:=if top d then some (.bl (DB T d))else none
def p5(T:String)(f:FX):FX:=f1 (n8 T) f
theorem K5{f:FX}{xT:Str}{p2:Pos}(ok:wz X.K T)(hg:Gl X "isinstance")(hm:X.mg "isinstance"=none)(hgT:Gl X xT)(hmT:X.mg xT=none)(hvT:Qq xT=some (.type T))(he:FE X e f)
  (hn2:xT≠"__name__":=by decide) (hd2:(xT==("__debug__":Str))=false:=by decide)
  (hns:noStar e=true:=by rfl):
  FE X (.Call (.Name "isinstance" p) [e,.Name xT p2] [] pos) (p5 T f):=
 PE.weak (vQ (CG ok) hg hm Cb (mQ he (mQ (Dv (v:=.ty T) hgT hmT hvT rfl hn2 hd2) oE (e7 rfl)) (e7 hns)) (by decide) (by decide) (e7 hns) (iN rfl)) λσ H Q ⟨O,ρ,E,hF⟩=>⟨O,ρ,E,(iX.bind hF).imp λa hF v H1 s1 d1=>by
  obtain⟨d,e,q⟩:=iX.rO hF;obtain⟨h1,h2⟩:=bP e;subst h2;exact⟨O,v,a,rfl,h1,d1,q _ H1 s1 (kT.mpr rfl)⟩⟩
end
section
variable{X:Cx}{a:Qv}{f:FX}{pos:Pos}
def isNon:D->Bool
 |.non=>true
 |_=>false
def KH(d:D):Option D:=some (.bl (isNon d))
def IL(d:D):Option D:=some (.bl (!isNon d))
def Kv(f:FX):FX:=f1 KH f
def IV(f:FX):FX:=f1 IL f
theorem Iq(h:FE X a f)(he:∀whole,isTrue a X.env whole=(do let v<-whole;standAt a.pos;holding [v] (truthy v)):=by intro _;rfl):FT X a (fh f):=PT.weak (CO h he) λσ H Q ⟨O,ρ,E,hF⟩=>⟨O,ρ,E,(iX.bind hF).imp λd hF x H1 s1 d1=>by
 obtain⟨r,hF,q⟩:=iX.rO hF;refine⟨r,?_,q H1 s1⟩;cases d with
 |non=>cases hF;rw[j6.mp d1];rfl
 |bl b=>cases hF;rw[kT.mp d1];rfl
 |int i=>cases hF;rw[eZ.mp d1];rfl
 |str y=>
  obtain⟨hz,e⟩:=bP hF;subst e;rw[e9.mp d1];refine⟨eD hz,?_⟩;show(y.length !=0)=((y.length:Int) !=0)
  cases y.length<;>rfl
 |tup xs=>
  cases hF;obtain⟨p,vs,e,g1,g2⟩:=cD.mp d1;rw[e];refine .inr (.inl ⟨vs,bZ (aI H1 O) g1,?_⟩);have l:=g2.length;cases xs<;>cases vs<;>first|rfl|(simp at l)
 |lst xs=>
  cases hF;obtain⟨p,vs,e,g1,g2⟩:=cE.mp d1;rw[e];refine .inl ⟨vs,(aI H1 O).seq g1,?_⟩;have l:=g2.length;cases xs<;>cases vs<;>first|rfl|(simp at l)
 |_=>cases hF⟩
end
def Walk(K:OZ)(Hd:Hp)(J:It)(ds:List D):Prop:=
 ∀(Hn:Hp)(O':List Qj)(i:Nat),dQ Hn O'->bz Hd (hid Hn O')->(∀d,ds[i]?=some d->J.go i Hn/\∀x H2,J.yld i Hn x H2->bz Hn H2/\cO K (hid H2 O') d x)/\(i=ds.length->J.stop i Hn)
def JU(X:Cx)(G:aw->R (List D)):TI:=λσ H RR=>∃O ρ,dU X.K O H ρ σ/\iX X σ O H (G ρ) λds=>∀J H1,bz H H1->Walk X.K (hid H1 O) J ds->RR J H1
def FI(X:Cx)(tg iter:Qv)(G:aw->R (List D)):Prop:=PI X tg iter (JU X G)
def sg:D->Option (List D)
 |.lst xs=>some xs
 |.tup xs=>some xs
 |_=>none
def bL(f:FX):aw->R (List D):=λρ=>(f ρ).bind λd=>rO (sg d)
section
variable{X:Cx}{tg:Qv}
theorem AC{K:OZ}{Hd:Hp}{a:Qj}{ds:List D}{vs:List V}(h:nG K Hd a vs)(g:bh K Hd ds vs):Walk K Hd (J4 K a) ds:=λHn O' i hO s=>
  have s':bz Hd Hn:=s.trans (aI Hn O')
  ⟨fun d e=>by
    obtain⟨v,ev,dv⟩:=g.get e;refine⟨⟨vs,v,s'.seq h,ev⟩,λx H2 ⟨e2,y⟩=>?_⟩;have q:=y vs (s'.seq h);rw[ev]at q;cases q;subst e2;exact⟨bz.refl _,dv.mono s⟩,
   λhl=>⟨vs,s'.seq h,by rw[<-g.length];exact MH hl.symm⟩⟩
theorem B1{K:OZ}{Hd:Hp}{a:Qj}{ds:List D}{vs:List V}(h:Hd a=some (.tup vs))(g:bh K Hd ds vs):Walk K Hd (Kt K a) ds:=λHn O' i hO s=>
  have s':bz Hd Hn:=s.trans (aI Hn O')
  ⟨fun d e=>by
    obtain⟨v,ev,dv⟩:=g.get e;refine⟨⟨vs,v,bZ s' h,ev⟩,λx H2 ⟨e2,y⟩=>?_⟩;have q:=y vs (bZ s' h);rw[ev]at q;cases q;subst e2;exact⟨bz.refl _,dv.mono s⟩,
   λhl=>⟨vs,bZ s' h,by rw[<-g.length];exact MH hl.symm⟩⟩
theorem Lg{e:Qv}{f:FX}(h:FE X e f):FI X tg e (bL f):=by
 intro pins s σ H R I ⟨O,ρ,E,hG⟩;have hG':=iX.bind hG;cases hf:f ρ with
 |error z=>exact zi h pins s σ H R I ⟨O,ρ,E,by rw[hf]at hG' ⊢;cases z with|none=>exact hG'.elim|some x=>exact hG'⟩
 |ok d=>
  rw[hf]at hG';obtain⟨ds,e1,q⟩:=iX.rO (α:=List D) (o:=sg d) hG';cases d with
  |lst xs=>
   cases e1;refine zi h pins s σ H R I ⟨O,ρ,E,?_⟩;rw[hf];refine λv H1 s1 d1=>?_;obtain⟨p,vs,ev,g1,g2⟩:=cE.mp d1;exact⟨p,ev,⟨vs,(aI H1 O).seq g1⟩,q _ H1 s1 (AC g1 g2)⟩
  |tup xs=>
   cases e1;refine GO h pins s σ H R I ⟨O,ρ,E,?_⟩;rw[hf];refine λv H1 s1 d1=>?_;obtain⟨p,vs,ev,g1,g2⟩:=cD.mp d1;exact⟨p,ev,⟨vs,bZ (aI H1 O) g1⟩,q _ H1 s1 (B1 g1 g2)⟩
  |_=>cases e1
def eR(lo:Int)(n:Nat):List D:=(List.range n).map λ(k:Nat)=>D.int (lo+(k:Int))
theorem sG(lo:Int)(n:Nat):(eR lo n).length=n:=by unfold eR;rw[MS,NB]
theorem rg{K:OZ}{Hd:Hp}(lo:Int)(n:Nat):Walk K Hd (Jc lo n) (eR lo n):=λHn O' i hO s=>
  ⟨fun d e=>by
    unfold eR at e;rw[MP]at e;cases hi:(List.range n)[i]? with
    |none=>rw[hi]at e;cases e
    |some k=>
      rw[hi]at e;cases e;have hlt:i<n:=by
        have:=(List.getElem?_eq_some_iff.mp hi).1
        rwa [NB]at this
      have ek:k=i:=by
        rw[NE hlt]at hi;exact(Option.some.inj hi).symm
      subst ek;exact⟨hlt,λx H2 ⟨e1,e2⟩=>by subst e1;exact⟨bz.refl _,eZ.mpr e2⟩⟩,
   λhl=>by rw[sG]at hl;exact MH hl.symm⟩
def okR(j:Int):Bool:=decide (-(2^62)<=j/\j<2^62)
def ky:List D->Option (List D)
 |[.int j]=>if okR j then some (eR 0 j.toNat)else none
 |_=>none
def qv:List D->Option (List D)
 |[.int i,.int j]=>if okR i&&okR j then some (eR i (j-i).toNat)else none
 |_=>none
def fW(f:aw->R (List D)):aw->R (List D):=λρ=>(f ρ).bind λds=>rO (ky ds)
def qi(f:aw->R (List D)):aw->R (List D):=λρ=>(f ρ).bind λds=>rO (qv ds)
theorem Hq{a:Qv}{f:aw->R (List D)}{p pos:Pos}(hg:Gl X "range")(hm:X.mg "range"=none)(ha:FA X [a] f)(hs:Qw [a] X.env=[(false,eval a X.env)]:=by rfl):FI X tg (.Call (.Name "range" p) [a] [] pos) (fW f):=by
 intro pins s σ H R I ⟨O,ρ,E,hG⟩;refine AJ hg hm ha hs pins s σ H R I ⟨O,ρ,E,(iX.bind hG).imp λes hG' vs H1 s1 d1=>?_⟩;clear hG;obtain⟨ds,hG,q⟩:=iX.rO hG';clear hG';unfold ky at hG;split at hG
 ·rename_i j;obtain⟨h1,h2⟩:=bP hG;subst h2;obtain⟨j1,j2⟩:=of_decide_eq_true h1;obtain⟨v,ev,dv⟩:=d1.one;exact⟨j,by rw[ev,eZ.mp dv],j1,j2,q _ H1 s1 (rg 0 _)⟩
 ·cases hG
theorem Hr{a b:Qv}{f:aw->R (List D)}{p pos:Pos}(hg:Gl X "range")(hm:X.mg "range"=none)(ha:FA X [a,b] f)(hs:Qw [a,b] X.env=[(false,eval a X.env),(false,eval b X.env)]:=by rfl)(hs2:Qw [b] X.env=[(false,eval b X.env)]:=by rfl):FI X tg (.Call (.Name "range" p) [a,b] [] pos) (qi f):=by
 intro pins s σ H R I ⟨O,ρ,E,hG⟩;refine zT hg hm ha hs hs2 pins s σ H R I ⟨O,ρ,E,(iX.bind hG).imp λes hG' vs H1 s1 d1=>?_⟩;clear hG;obtain⟨ds,hG,q⟩:=iX.rO hG';clear hG';unfold qv at hG;split at hG
 ·rename_i i j;obtain⟨h1,h2⟩:=bP hG;subst h2;rw[MV]at h1;obtain⟨i1,i2⟩:=of_decide_eq_true h1.1;obtain⟨j1,j2⟩:=of_decide_eq_true h1.2;obtain⟨v,w,ev,dv,dw⟩:=d1.two;exact⟨i,j,by rw[ev,eZ.mp dv,eZ.mp dw],⟨i1,i2,j1,j2⟩,q _ H1 s1 (rg i _)⟩
 ·cases hG
end
abbrev GF:=D->aw->Option aw
def Jm(K:OZ)(g:GF):TG:=λv σ H Q=>∃O ρ d ρ',dU K O H ρ σ/\cO K (hid H O) d v/\g d ρ=some ρ'/\∀σ',dU K O H ρ' σ'->(∀(i:Nat) x,ρ'[i]?=some (some x)->(∀d,x≠.val d)->σ'[i]?=σ[i]?/\ρ[i]?=some (some x))->Q σ' H
def FG(X:Cx)(tg:Qv)(g:GF):Prop:=PG X tg (Jm X.K g)
def setV(i:Nat)(d:D)(ρ:aw):aw:=ρ.set i (some (.val d))
theorem bp{α:Type}{l:List α}{i j:Nat}{a b:α}(h:(l.set i a)[j]?=some b):(j=i/\b=a)\/(j≠i/\l[j]?=some b):=by
 by_cases e:j=i
 ·subst e;left;have hj:j<(l.set j a).length:=(List.getElem?_eq_some_iff.mp h).1;rw[List.length_set]at hj;rw[My hj]at h;exact⟨rfl,(Option.some.inj h).symm⟩
 ·right;rw[Mz (Ne.symm e)]at h;exact⟨e,h⟩
theorem dU.setV{K:OZ}{O:List Qj}{H:Hp}{ρ:aw}{σ:St}(E:dU K O H ρ σ){i:Nat}{d:D}{v:V}(hi:i<σ.length)(hd:cO K (hid H O) d v):dU K O H (setV i d ρ) (σ.set i (some v)):=
  ⟨fun j d' e=>by
    rcases bp e with⟨hj,eq⟩|⟨ne,eq⟩
    ·cases eq;rw[hj];exact⟨v,My hi,hd⟩
    · obtain⟨w,e1,e2⟩:=E.val j d' eq
      exact⟨w,by rw[Mz (Ne.symm ne)];exact e1,e2⟩,
   λj xs e=>by
    rcases bp e with⟨_,eq⟩|⟨ne,eq⟩
    ·cases eq
    · obtain⟨a,e1,e2⟩:=E.own j xs eq
      exact⟨a,by rw[Mz (Ne.symm ne)];exact e1,e2⟩,
   λj k xs ys a e1 e2 e3 e4=>by
    rcases bp e1 with⟨_,q1⟩|⟨ne1,q1⟩
    ·cases q1
    · rcases bp e2 with⟨_,q2⟩|⟨ne2,q2⟩
      ·cases q2
      · rw[Mz (Ne.symm ne1)]at e3
        rw[Mz (Ne.symm ne2)]at e4;exact E.one j k xs ys a q1 q2 e3 e4,E.all⟩
section
variable{X:Cx}{pos:Pos}
def gN(i:Nat):GF:=λd ρ=>some (setV i d ρ)
theorem Jk{i:Nat}{x:Str}(hN:X.N.Nodup)(hi:X.N[i]?=some x)(hx:Loc X.env.scope x)(hf:X.fn x=true\/X.env.scope.names.lookup x=some .local:=by first|exact .inl rfl|exact .inr rfl|assumption):FG X (.Name x pos) (gN i):=by
 intro pins s σ H v u Q I r ⟨O,ρ,d,ρ',E,hd,hg,q⟩;cases hg;have hiσ:i<σ.length:=by rw[I.len];exact(List.getElem?_eq_some_iff.mp hi).1
 refine DP hN hi hx hf pins s σ H v u Q I r (q _ (E.setV hiσ hd) λj x e nv=>?_);rcases bp e with⟨_,eq⟩|⟨ne,eq⟩
 ·cases eq;exact absurd rfl (nv _)
 ·exact⟨Mz (Ne.symm ne),eq⟩
abbrev Be:=List D->aw->Option aw
def J7(K:OZ)(g:Be):Fj:=λvs σ H Q=>∃O ρ ds ρ',dU K O H ρ σ/\bh K (hid H O) ds vs/\g ds ρ=some ρ'/\∀σ',dU K O H ρ' σ'->(∀(i:Nat) x,ρ'[i]?=some (some x)->(∀d,x≠.val d)->σ'[i]?=σ[i]?/\ρ[i]?=some (some x))->Q σ' H
def IM(X:Cx)(ts:List Qv)(g:Be):Prop:=Iw X ts (J7 X.K g)
def CW:Be:=λds ρ=>match ds with
 |[]=>some ρ
 |_=>none
def yK(g:GF)(h:Be):Be:=λds ρ=>match ds with
 |d::r=>(g d ρ).bind λρ1=>h r ρ1
 |_=>none
theorem JI:IM X [] CW:=by
 intro pins s σ H vs us Q I r ⟨O,ρ,ds,ρ',E,hd,hg,q⟩;cases ds with
 |nil=>
  cases hg;rw[cU]at hd;exact Du pins s σ H vs us Q I r ⟨hd,q _ E λi x e _=>⟨rfl,e⟩⟩
 |cons _ _=>cases hg
theorem Im{e:Qv}{es:List Qv}{g:GF}{h:Be}(h1:FG X e g)(h2:IM X es h)(hs:(assignEach (e::es) X.env).map (·.2)=assign e X.env::(assignEach es X.env).map (·.2):=by rfl):IM X (e::es) (yK g h):=by
 intro pins s σ H vs us Q I r ⟨O,ρ,ds,ρ',E,hd,hg,q⟩;cases ds with
 |nil=>cases hg
 |cons d ds=>
  obtain⟨ρ1,e1,e2⟩:=bind_some hg;rw[bE]at hd;obtain⟨v,vr,ev,d1,d2⟩:=hd;exact BP h1 h2 hs pins s σ H vs us Q I r ⟨v,vr,ev,O,ρ,d,ρ1,E,d1,e1,λσ1 E1 k1=>⟨O,ρ1,ds,ρ',E1,d2,e2,λσ2 E2 k2=>q σ2 E2 λi x e nv=>by
   obtain⟨a1,a2⟩:=k2 i x e nv;obtain⟨b1,b2⟩:=k1 i x a2 nv;exact⟨a1.trans b1,b2⟩⟩⟩
def gT(n:Nat)(g:Be):GF:=λd ρ=>match d with
 |.tup xs=>if xs.length=n then g xs ρ else none
 |_=>none
theorem KN{es:List Qv}{k:Nat}{g:Be}{n:Nat}(hc:X.calm=true)(h:IM X es g)(hn:(assignEach es X.env).length=n:=by rfl)(hst:(assignEach es X.env).findIdx? (·.1)=none:=by rfl):FG X (.Tuple es k pos) (gT n g):=by
 intro pins s σ H v u Q I r ⟨O,ρ,d,ρ',E,hd,hg,q⟩;cases d with
 |tup xs=>
  obtain⟨p,vs,ev,g1,g2⟩:=cD.mp hd;have hg':(if xs.length=n then g xs ρ else none)=some ρ':=hg;by_cases hl:xs.length=n
  ·rw[if_pos hl]at hg';exact He hc h hn hst pins s σ H v u Q I r ⟨p,vs,ev,bZ (aI H O) g1,by rw[<-g2.length];exact hl,O,ρ,xs,ρ',E,g2,hg',q⟩
  ·rw[if_neg hl]at hg';cases hg'
 |_=>cases hg
end
def Ci{α:Type}(r:R α):R α:=match r with
 |.ok a=>.ok a
 |.error _=>un
theorem CC{α:Type}{r:R α}{a:α}(h:Ci r=.ok a):r=.ok a:=by
 cases r with
 |ok b=>exact h
 |error z=>cases h
def inB(ix:List (Option Nat))(ρ:aw):aw:=ix.map λo=>match o with
 |some i=>match ρ[i]? with
  |some (some (.val d))=>some (.val d)
  |_=>none
 |none=>none
def Av(ρ:aw)(g:GF)(C:aw->R Bool)(Fe:FX):List D->R (List D)
 |[]=>.ok []
 |d::ds=>(rO (g d ρ)).bind λρ1=>(Ci (C ρ1)).bind λc=>if c then(Ci (Fe ρ1)).bind λv=>(Av ρ g C Fe ds).bind λr=>.ok (v::r)else Av ρ g C Fe ds
theorem nX(ρ:aw)(g:GF)(C:aw->R Bool)(Fe:FX)(d:D)(ds:List D):Av ρ g C Fe (d::ds)=(rO (g d ρ)).bind λρ1=>(Ci (C ρ1)).bind λc=>if c then(Ci (Fe ρ1)).bind λv=>(Av ρ g C Fe ds).bind λr=>.ok (v::r)else Av ρ g C Fe ds:=rfl
def iW(ix:List (Option Nat))(G:aw->R (List D))(g:GF)(C:aw->R Bool)(Fe:FX):FX:=λρ=>(G ρ).bind λds=>if small ds.length then Ci ((Av (inB ix ρ) g C Fe ds).bind λr=>.ok (.lst r))else un
def Ji(X:Cx)(ifs:List Qv)(F:aw->R Bool):Prop:=Gf X ifs (Jq X F)
def dZ:aw->R Bool:=λ_=>.ok true
theorem JK{X:Cx}:Ji X [] dZ:=λpins s σ H Q I ⟨O,ρ,E,q⟩=>Ds pins s σ H Q I (q H (bz.refl H))
theorem Jx{X:Cx}{c:Qv}{F:aw->R Bool}(h:FT X c F):Ji X [c] F:=DX h
theorem oa{ix:List (Option Nat)}{ρ:aw}{j:Nat}{x:S}(e:(inB ix ρ)[j]?=some (some x)):∃i d,ix[j]?=some (some i)/\ρ[i]?=some (some (.val d))/\x=.val d:=by
 unfold inB at e;rw[MP]at e;cases q:ix[j]? with
 |none=>rw[q]at e;cases e
 |some o=>
  rw[q]at e;cases o with
  |none=>cases e
  |some i=>
   have e':(match ρ[i]? with|some (some (.val d))=>some (S.val d)|_=>none)=some x:=Option.some.inj e;split at e'
   ·rename_i d hd;cases e';exact⟨i,d,rfl,hd,rfl⟩
   ·cases e'
theorem DU{K:OZ}{O:List Qj}{H:Hp}{ρ:aw}{σ:St}(ix:List (Option Nat))(E:dU K O H ρ σ):dU K O H (inB ix ρ) (inBlock ix σ):=by
 refine⟨λj d e=>?_,λj xs e=>?_,λj k xs ys a e=>?_,E.all⟩
 ·obtain⟨i,d',q1,q2,q3⟩:=oa e;cases q3;obtain⟨v,e1,e2⟩:=E.val i d q2;refine⟨v,?_,e2⟩;unfold inBlock;rw[MP,q1];show some ((σ[i]?).getD none)=some (some v);rw[e1];rfl
 ·obtain⟨_,_,_,_,q3⟩:=oa e;cases q3
 ·obtain⟨_,_,_,_,q3⟩:=oa e;cases q3
theorem qZ{H:Hp}{O:List Qj}{p:Qj}{o:HO}(hp:H p=none):bz (hid H O) (hid (upd H p o) (p::O)):=λb u h=>by
 unfold hid at h ⊢;by_cases hb:b∈O
 ·rw[if_pos hb]at h;cases h
 ·rw[if_neg hb]at h;have ne:=bd h hp;rw[if_neg (by intro z;rcases List.mem_cons.mp z with z|z;exact ne z;exact hb z),aM ne];exact h
theorem dU.hideNew{K:OZ}{O:List Qj}{H:Hp}{ρ:aw}{σ:St}{p:Qj}{o:HO}(m:sE o)(E:dU K O H ρ σ)(hp:H p=none):dU K (p::O) (upd H p o) ρ σ:=by
 have s:bz (hid H O) (hid (upd H p o) (p::O)):=qZ hp;refine⟨λi d e=>let ⟨v,a,b⟩:=E.val i d e;⟨v,a,b.mono s⟩,λi xs e=>?_,E.one,(E.all.same (bW hp o)).cons aZ m⟩;obtain⟨a,e1,e2,e3⟩:=E.own i xs e;obtain⟨u,hu⟩:=e3.some;exact⟨a,e1,Mw _ e2,e3.mono (by rw[aM (bd hu hp)]) s⟩
theorem dU.rewrite{K:OZ}{O:List Qj}{H:Hp}{ρ:aw}{σ:St}{p:Qj}{o:HO}(m:sE o)(E:dU K O H ρ σ)(hp:p∈O)(hs:∀(i:Nat) xs,ρ[i]?=some (some (.own xs))->σ[i]?≠some (some (.ref p))):dU K O (upd H p o) ρ σ:=by
 have s:bz (hid H O) (hid (upd H p o) O):=jj hp;refine⟨λi d e=>let ⟨v,a,b⟩:=E.val i d e;⟨v,a,b.mono s⟩,λi xs e=>?_,E.one,E.all.upd hp m⟩;obtain⟨a,e1,e2,e3⟩:=E.own i xs e;have ne:a≠p:=λz=>hs i xs e (by rw[<-z];exact e1);exact⟨a,e1,e2,e3.mono (by rw[aM ne]) s⟩
theorem dU.forget{K:OZ}{O:List Qj}{H:Hp}{ρ ρ':aw}{σ:St}(E:dU K O H ρ σ)(h:∀(i:Nat) x,ρ'[i]?=some (some x)->ρ[i]?=some (some x)):dU K O H ρ' σ:=
 ⟨λi d e=>E.val i d (h i _ e),λi xs e=>E.own i xs (h i _ e),λi j xs ys a e1 e2=>E.one i j xs ys a (h i _ e1) (h j _ e2),E.all⟩
def Fills(ρ:aw)(g:GF):Prop:=∀d ρ1,g d ρ=some ρ1->∀(i:Nat) x,ρ[i]?=some (some x)->ρ1[i]?=some (some x)
theorem sL(ix:List (Option Nat))(ρ:aw):∀(i:Nat) xs,(inB ix ρ)[i]?≠some (some (.own xs)):=by
 intro j xs e;obtain⟨_,_,_,_,q3⟩:=oa e;cases q3
theorem IX{α:Type}{o:Option α}{a:α}(h:rO o=.ok a):o=some a:=by
 cases o with
 |none=>cases h
 |some b=>cases h;rfl
end TG
namespace TG
open PySem PySem.Spec L2
variable[bc]
section
variable{X:Cx}{elt tg iter:Qv}{ifs:List Qv}{scope:Qt}{pos:Pos}{N:List Str}{ix:List (Option Nat)}{G:aw->R (List D)}{g:GF}{C:aw->R Bool}{Fe:FX}
structure p6(ix:List (Option Nat))(g:GF):Prop where
 fill:∀ρ,Fills (inB ix ρ) g
 own:∀ρ d ρ1,g d (inB ix ρ)=some ρ1->∀(i:Nat) xs,ρ1[i]?≠some (some (.own xs))
theorem wq{ρ:aw}{i:Nat}(h:ix[i]?=some none):∀x,(inB ix ρ)[i]?≠some (some x):=λx e=>by
 obtain⟨_,_,q,_⟩:=oa e;rw[h]at q;cases q
theorem bS{i:Nat}(h:ix[i]?=some none):p6 ix (gN i):=
  ⟨fun ρ d ρ1 e j x q=>by
    cases e;by_cases z:j=i
    ·subst z;exact absurd q (wq h x)
    ·unfold setV;rw[Mz (Ne.symm z)];exact q,
   λρ d ρ1 e j xs q=>by
    cases e;rcases bp q with⟨_,z⟩|⟨_,z⟩
    ·cases z
    ·exact sL ix ρ j xs z⟩
def DY(ix:List (Option Nat))(is:List Nat):Bool:=is.all λi=>match ix[i]? with
 |some none=>true
 |_=>false
def nH:List Nat->Be
 |[]=>CW
 |i::is=>yK (gN i) (nH is)
theorem yW:∀(is:List Nat)(ds:List D)(ρ ρ1:aw),nH is ds ρ=some ρ1->∀(k:Nat)(x:S),ρ1[k]?=some (some x)->(k∈is/\∃d,x=.val d)\/ρ[k]?=some (some x)
 |[],ds,ρ,ρ1,h,k,x,e=>by
  cases ds with
  |nil=>cases h;exact .inr e
  |cons _ _=>cases h
 |i::is,ds,ρ,ρ1,h,k,x,e=>by
  cases ds with
  |nil=>cases h
  |cons d ds=>
   rcases yW is ds (setV i d ρ) ρ1 h k x e with⟨a,b⟩|q
   ·exact .inl ⟨Mw _ a,b⟩
   ·rcases bp q with⟨z,w⟩|⟨_,w⟩
    ·exact .inl ⟨by rw[z];exact Mv,d,Option.some.inj w⟩
    ·exact .inr w
theorem vM:∀(is:List Nat)(ds:List D)(ρ ρ1:aw),nH is ds ρ=some ρ1->∀(k:Nat)(x:S),k∉is->ρ[k]?=some (some x)->ρ1[k]?=some (some x)
 |[],ds,ρ,ρ1,h,k,x,_,e=>by
  cases ds with
  |nil=>cases h;exact e
  |cons _ _=>cases h
 |i::is,ds,ρ,ρ1,h,k,x,n,e=>by
  cases ds with
  |nil=>cases h
  |cons d ds=>
   refine vM is ds (setV i d ρ) ρ1 h k x (λz=>n (Mw _ z)) ?_;unfold setV;rw[Mz (λz=>n (by rw[z];exact Mv))];exact e
theorem rY{is:List Nat}{n:Nat}(h:DY ix is=true):p6 ix (gT n (nH is)):=by
 have hn:∀i∈is,ix[i]?=some none:=λi hi=>by
  have:=List.all_eq_true.mp h i hi
  cases e:ix[i]? with
  |none=>rw[e]at this;cases this
  |some o=>cases o with
   |none=>rfl
   |some _=>rw[e]at this;cases this
 have shape:∀ρ d ρ1,gT n (nH is) d ρ=some ρ1->∃ds,nH is ds ρ=some ρ1:=λρ d ρ1 e=>by
  cases d with
  |tup xs=>
   have e':(if xs.length=n then nH is xs ρ else none)=some ρ1:=e;by_cases hl:xs.length=n
   ·rw[if_pos hl]at e';exact⟨xs,e'⟩
   ·rw[if_neg hl]at e';cases e'
  |_=>cases e
 refine⟨λρ d ρ1 e k x q=>?_,λρ d ρ1 e k xs q=>?_⟩
 ·obtain⟨ds,e⟩:=shape _ d ρ1 e;exact vM is ds _ ρ1 e k x (λz=>wq (hn k z) x q) q
 ·obtain⟨ds,e⟩:=shape _ d ρ1 e;rcases yW is ds _ ρ1 e k _ q with⟨_,d,z⟩|z
  ·cases z
  ·exact sL ix ρ k xs z
structure iy(X:Cx)(scope:Qt)(N:List Str)(ix:List (Option Nat)):Prop where
 cell:∀y∈scope.names,y.2≠.cell
 kind:scope.kind=.function
 names:∀y∈scope.names,y.2=.local->scope.names.lookup y.1=some .local
 free:∀y∈scope.names,y.2=.free->X.env.scope.names.lookup y.1=some .cell\/X.env.scope.names.lookup y.1=some .free
 ix:u9 X.N N scope.names ix=true
def zb(XS:List (Str×QT))(XN:List Str)(scope:Qt)(N:List Str)(ix:List (Option Nat)):Bool:=
 scope.names.all (λy=>decide (y.2≠.cell))&&decide (scope.kind=.function)&&scope.names.all (λy=>decide (y.2≠.local)||decide (scope.names.lookup y.1=some .local)) &&
  scope.names.all (λy=>decide (y.2≠.free)||(decide (XS.lookup y.1=some .cell)||decide (XS.lookup y.1=some .free)))&&u9 XN N scope.names ix
theorem iy.of(h:zb X.env.scope.names X.N scope N ix=true):iy X scope N ix:=by
 unfold zb at h;simp only[MV]at h;obtain⟨⟨⟨⟨h1,h2⟩,h3⟩,h4⟩,h5⟩:=h;refine⟨λy hy=>of_decide_eq_true (List.all_eq_true.mp h1 y hy),of_decide_eq_true h2,λy hy e=>?_,λy hy e=>?_,h5⟩
 ·rcases Nv _ _ ▸ List.all_eq_true.mp h3 y hy with q|q
  ·exact absurd e (of_decide_eq_true q)
  ·exact of_decide_eq_true q
 ·rcases Nv _ _ ▸ List.all_eq_true.mp h4 y hy with q|q
  ·exact absurd e (of_decide_eq_true q)
  ·rcases Nv _ _ ▸ q with q|q
   ·exact .inl (of_decide_eq_true q)
   ·exact .inr (of_decide_eq_true q)
def Ht(X:Cx)(scope:Qt)(N:List Str)(tg elt:Qv)(ifs:List Qv)(g:GF)(C:aw->R Bool)(Fe:FX):Prop:=
 ∀cl C' fp s H E,FG (cF X scope N cl C' fp s H E) tg g/\Ji (cF X scope N cl C' fp s H E) ifs C/\FE (cF X scope N cl C' fp s H E) elt Fe
def Gk(K:OZ)(F:aw->R Bool):TT:=λσ H Q=>∃O ρ b,dU K O H ρ σ/\F ρ=.ok b/\∀H',bz H H'->Q b H'
def Kz(K:OZ)(F:FX):TE:=λσ H Q=>∃O ρ d,dU K O H ρ σ/\F ρ=.ok d/\∀v H',bz H H'->cO K (hid H' O) d v->Q v H'
theorem Ht.k(hb:Ht X scope N tg elt ifs g C Fe):∀cl C' fp s H E,PG (cF X scope N cl C' fp s H E) tg (Jm X.K g)/\Gf (cF X scope N cl C' fp s H E) ifs (Gk X.K C)/\PE (cF X scope N cl C' fp s H E) elt (Kz X.K Fe):=λcl C' fp s H E=>by
 obtain⟨h1,h2,h3⟩:=hb cl C' fp s H E;refine⟨h1,λpins s σ H Q I ⟨O,ρ,b,e1,e2,q⟩=>h2 pins s σ H Q I ⟨O,ρ,e1,by rw[e2];exact q⟩,λpins s σ H Q I ⟨O,ρ,d,e1,e2,q⟩=>h3 pins s σ H Q I ⟨O,ρ,e1,by rw[e2];exact q⟩⟩
def KD(X:Cx)(F:FX):TE:=λσ H Q=>∃O ρ,dU X.K O H ρ σ/\iX X σ O H (F ρ) λd=>∀D H' total acc,d=.lst total->bz H H'->H D=none->H' D=some (.lst acc)->bh X.K (hid H' (D::O)) total acc->Q (.ref D) H'
theorem KI{F:FX}:∀σ H Q,tF X F σ H Q->KD X F σ H Q:=λσ H Q ⟨O,ρ,E,hF⟩=>⟨O,ρ,E,hF.imp λd q D H' total acc e sm hD hD' dn=>by
 subst e;have DO:D∉O:=E.all.not hD;exact q _ H' sm (cE.mpr ⟨D,acc,rfl,nG.of (by rw[js DO];exact hD'),dn.mono (iP λa ha=>Mw _ ha)⟩)⟩
theorem CL(tk:p6 ix g):∀σ H Q,KD X (iW ix G g C Fe) σ H Q->JL (JU X G) (Jm X.K g) (Gk X.K C) (Kz X.K Fe) ix σ H Q:=λσ H Q ⟨O,ρ,E,hF⟩=>by
 refine⟨O,ρ,E,(iX.bind hF).imp λds hF=>?_⟩;have hz:small ds.length=true:=by
  cases e:small ds.length with
  |true=>rfl
  |false=>rw[e]at hF;exact hF.elim
 rw[hz,if_pos rfl]at hF;cases hL:Av (inB ix ρ) g C Fe ds with
 |error z=>rw[hL]at hF;exact hF.elim
 |ok total=>
 rw[hL]at hF;have q:∀D H' total' acc,TG.D.lst total=.lst total'->bz H H'->H D=none->H' D=some (.lst acc)->bh X.K (hid H' (D::O)) total' acc->Q (.ref D) H':=hF;have e2:=hL;have hfill:=tk.fill;have hown:=tk.own;refine λJ H1 s1 wk D hD=>?_;have E1:dU X.K (D::O) (upd H1 D (.lst [])) (inB ix ρ) (inBlock ix σ):=((DU ix E).same s1).hideNew trivial hD;have DO:D∉O:=(E.all.same s1).not hD;refine⟨λi m σ' H'=>m=ds.length-i/\i<=ds.length/\bz H1 H'/\dU X.K (D::O) H' (inB ix ρ) σ'/\∃acc dn rest,H' D=some (.lst acc)/\acc.length<=i/\bh X.K (hid H' (D::O)) dn acc/\Av (inB ix ρ) g C Fe (ds.drop i)=.ok rest/\dn++rest=total,
  ⟨ds.length,by rw[ND],MI _,bW hD _,E1,[],[],total,aZ,MC _,cU.mpr rfl,by rw[Nm];exact e2,rfl⟩,?_⟩
 rintro i m σ' H' ⟨rfl,hi,sm,E',acc,dn,rest,hacc,hlen,hdn,hrest,htot⟩;have sH:bz (hid H1 O) (hid H' (D::O)):=λb o h=>by
  have h2:=sm b o (aI H1 O b o h);unfold hid at h ⊢;by_cases hb:b∈O
  ·rw[if_pos hb]at h;cases h
  ·rw[if_neg hb]at h;have ne:b≠D:=bd h hD;rw[if_neg (by intro z;rcases List.mem_cons.mp z with z|z;exact ne z;exact hb z)];exact h2
 by_cases hlt:i<ds.length
 ·right;obtain⟨go,yl⟩:=(wk H' (D::O) i E'.all sH).1 ds[i] (by simp[hlt]);refine⟨go,λx H2 y=>?_⟩;obtain⟨s2,dx'⟩:=yl x H2 y;have E':=E'.same s2;have sm:=sm.trans s2;have hacc:=s2 _ _ hacc;have hdn:=hdn.mono (cw s2);rw[NF hlt,nX]at hrest;obtain⟨ρ1,g1,hrest⟩:=qe hrest;have g1:=IX g1;obtain⟨c,c1,hrest⟩:=qe hrest;have c1:=CC c1;refine⟨D::O,inB ix ρ,ds[i],ρ1,E',dx',g1,λσ3 E3 _=>?_⟩;refine⟨D::O,ρ1,c,E3,c1,λH4 s4=>?_⟩;have E4:=E3.same s4;have back:∀{H5:Hp},dU X.K (D::O) H5 ρ1 σ3->dU X.K (D::O) H5 (inB ix ρ) σ3:=λz=>z.forget λj x e=>hfill ρ _ _ g1 j x e;cases c with
  |true=>
   refine Ck ?_;rw[if_pos rfl]at hrest;obtain⟨v,v1,hrest⟩:=qe hrest;have v1:=CC v1;obtain⟨r,r1,hrest⟩:=qe hrest;cases hrest;refine⟨D::O,ρ1,v,E4,v1,λw H5 s5 dw=>?_⟩;have s45:=s4.trans s5;have ha5:H5 D=some (.lst acc):=s45 _ _ hacc;have hzl:ds.length<Qm:=NI (of_decide_eq_true hz) (by decide);refine⟨acc,ha5,by omega,ds.length-(i+1),by omega,rfl,hlt,?_,?_,acc++[w],dn++[v],r,aZ,by rw[MR,MY];omega,?_,r1,by rw[NK];exact htot⟩
   ·intro b o h;rw[aM (bd h hD)];exact s45 _ _ (sm _ _ h)
   ·exact back ((E3.same s45).rewrite trivial Mv λj xs e=>absurd e (hown ρ _ _ g1 j xs))
   ·have s6:bz (hid H5 (D::O)) (hid (upd H5 D (.lst (acc++[w]))) (D::O)):=jj Mv;exact(hdn.mono ((cw s45).trans s6)).snoc (dw.mono s6)
  |false=>
   refine Bl ?_;rw[if_neg MG]at hrest;exact⟨ds.length-(i+1),by omega,rfl,hlt,sm.trans s4,back E4,acc,dn,rest,s4 _ _ hacc,by omega,hdn.mono (cw s4),hrest,htot⟩
 ·left;have ei:i=ds.length:=by omega
  subst ei;refine⟨(wk H' (D::O) ds.length E'.all sH).2 rfl,?_⟩;rw[NM]at hrest;cases hrest;rw[MJ]at htot;subst htot;exact q D H' _ acc rfl (s1.trans sm) (s1.free hD) hacc hdn
theorem Fd(tk:p6 ix g):∀σ H Q,tF X (iW ix G g C Fe) σ H Q->JL (JU X G) (Jm X.K g) (Gk X.K C) (Kz X.K Fe) ix σ H Q:=λσ H Q h=>CL tk σ H Q (KI σ H Q h)
theorem Lz(hc:X.calm=true)(ok:iy X scope N ix)(tk:p6 ix g)(hi:FI X tg iter G)(hb:Ht X scope N tg elt ifs g C Fe)
  (hs:∀x,QG iter X.env x=pure x:=by intro _;rfl):FE X (.ListComp elt [⟨tg,iter,ifs,0⟩] scope pos) (iW ix G g C Fe):=
 PE.weak (ED hc ok.cell ok.kind ok.names ok.free ok.ix hi hb.k hs) (Fd tk)
end
structure Ks where
 nx:aw->R D
 bk:aw->R D:=λ_=>un
 ct:aw->R D:=λ_=>un
 ex:Ex->aw->R D:=λx _=>.error (some x)
abbrev cx:=Ks->aw->R D
def si{α:Type}(r:R α)(k:Ks)(ρ:aw)(f:α->R D):R D:=match r with
 |.ok a=>f a
 |.error (some x)=>k.ex x ρ
 |.error none=>un
structure Base(Hb:Hp)(Ob:List Qj)(H:Hp)(O:List Qj):Prop where
 same:bz Hb H
 sub:∀a∈Ob,a∈O
 new:∀a∈O,a∈Ob\/Hb a=none
def qI(K:OZ)(H:Hp)(O:List Qj):List Qj->List D->Prop
 |[],[]=>True
 |b::bs,x::xs=>eE K H O b x/\qI K H O bs xs
 |_,_=>False
def ud(K:OZ)(H:Hp)(O:List Qj)(a:Qj)(bs:List Qj)(d:D):Prop:=
 ∃xs,qI K H O bs xs/\((d=.lst xs/\H a=some (.lst (bs.map .ref)))\/(∃kvs:List (List Key×V),d=.dct (kvs.map λp=>.tup (p.1.map bF)) xs/\H a=some (.dT kvs)/\kvs.map (·.2)=bs.map .ref)\/(d=.dct [] xs/\bs=[]/\H a=some (.dK [])))
def yM(K:OZ)(Hb:Hp)(Ob O:List Qj)(H:Hp)(ρ:aw)(σ:St)(i:Nat)(d:D):Prop:=
 ∃a bs,σ[i]?=some (some (.ref a))/\ud K H O a bs d/\(a::bs).Nodup/\(∀b∈a::bs,b∈O/\Hb b=none/\b∉Ob/\∀(j:Nat) d',ρ[j]?=some (some (.own d'))->σ[j]?≠some (some (.ref b)))/\∀(j:Nat) d',ρ[j]?=some (some (.nest d'))->j=i
theorem qI.mono{K:OZ}{H H':Hp}{O O':List Qj}(s:bz (hid H O) (hid H' O')):∀{bs:List Qj}{xs:List D},qI K H O bs xs->(∀b∈bs,(∃o,H b=some o)->H' b=H b)->qI K H' O' bs xs
 |[],[],_,_=>trivial
 |b::bs,x::xs,h,e=>⟨h.1.mono (e b Mv h.1.some).symm s,qI.mono s h.2 λb' hb=>e b' (Mw _ hb)⟩
 |[],_::_,h,_=>h.elim
 |_::_,[],h,_=>h.elim
theorem qI.some{K:OZ}{H:Hp}{O:List Qj}:∀{bs:List Qj}{xs:List D},qI K H O bs xs->∀b∈bs,∃o,H b=some o
 |[],_,_,_,hb=>nomatch hb
 |b::bs,x::xs,h,b',hb=>by
  rcases List.mem_cons.mp hb with z|z
  ·rw[z];exact h.1.some
  ·exact qI.some h.2 b' z
 |_::_,[],h,_,_=>h.elim
theorem ud.some{K:OZ}{H:Hp}{O:List Qj}{a:Qj}{bs:List Qj}{d:D}(h:ud K H O a bs d):∀b∈a::bs,∃o,H b=some o:=λb hb=>by
 obtain⟨xs,h1,h2⟩:=h;rcases List.mem_cons.mp hb with z|z
 ·rw[z];rcases h2 with⟨_,q⟩|⟨_,_,q,_⟩|⟨_,_,q⟩<;>exact⟨_,q⟩
 ·exact h1.some b z
theorem ud.mono{K:OZ}{H H':Hp}{O O':List Qj}{a:Qj}{bs:List Qj}{d:D}(h:ud K H O a bs d)(s:bz (hid H O) (hid H' O'))(e:∀b∈a::bs,(∃o,H b=Option.some o)->H' b=H b):ud K H' O' a bs d:=by
 have ea:=e a Mv (h.some a Mv);obtain⟨xs,h1,h2⟩:=h;refine⟨xs,h1.mono s λb hb=>e b (Mw _ hb),?_⟩;rw[ea];exact h2
theorem yM.to{K:OZ}{Hb Hb':Hp}{Ob O O':List Qj}{H H':Hp}{ρ ρ':aw}{σ σ':St}{i:Nat}{d:D}(h:yM K Hb Ob O H ρ σ i d)(hσ:σ'[i]?=σ[i]?)(s:bz (hid H O) (hid H' O'))
  (k:∀b,b∈O->Hb b=none->b∉Ob->(∀(j:Nat) d',ρ[j]?=some (some (.own d'))->σ[j]?≠some (some (.ref b)))->(∃o,H b=some o)->H' b=H b/\b∈O'/\Hb' b=none/\∀(j:Nat) d',ρ'[j]?=some (some (.own d'))->σ'[j]?≠some (some (.ref b)))
  (n:∀(j:Nat) d',ρ'[j]?=some (some (.nest d'))->∃d2,ρ[j]?=some (some (.nest d2))):yM K Hb' Ob O' H' ρ' σ' i d:=by
 obtain⟨a,bs,h1,h2,h3,h4,h5⟩:=h;refine⟨a,bs,hσ.trans h1,h2.mono s λb hb ho=>?_,h3,λb hb=>?_,λj d' q=>?_⟩
 ·obtain⟨q1,q2,q3,q4⟩:=h4 b hb;exact(k b q1 q2 q3 q4 ho).1
 ·obtain⟨q1,q2,q3,q4⟩:=h4 b hb;obtain⟨_,w2,w3,w4⟩:=k b q1 q2 q3 q4 (h2.some b hb);exact⟨w2,w3,q3,w4⟩
 ·obtain⟨d2,q⟩:=n j d' q;exact h5 j d2 q
structure dL(K:OZ)(Hb:Hp)(Ob O:List Qj)(H:Hp)(ρ:aw)(σ:St):Prop where
 env:dU K O H ρ σ
 base:Base Hb Ob H O
 mine:∀(i:Nat) xs a,ρ[i]?=some (some (.own xs))->σ[i]?=some (some (.ref a))->Hb a=none/\a∉Ob
 nst:∀(i:Nat) d,ρ[i]?=some (some (.nest d))->yM K Hb Ob O H ρ σ i d
theorem Base.same'{Hb:Hp}{Ob:List Qj}{H H':Hp}{O:List Qj}(b:Base Hb Ob H O)(s:bz H H'):Base Hb Ob H' O:=⟨b.same.trans s,b.sub,b.new⟩
theorem dL.same{K:OZ}{Hb:Hp}{Ob O:List Qj}{H H':Hp}{ρ:aw}{σ:St}(h:dL K Hb Ob O H ρ σ)(s:bz H H'):dL K Hb Ob O H' ρ σ:=⟨h.env.same s,h.base.same' s,h.mine,λi d q=>(h.nst i d q).to rfl (cw s) (λb q1 q2 q3 q4 ⟨o,ho⟩=>⟨by rw[ho,s _ _ ho],q1,q2,q4⟩) λj d' z=>⟨d',z⟩⟩
theorem dL.after{K:OZ}{Hb:Hp}{Ob O:List Qj}{H:Hp}{ρ ρ':aw}{σ σ':St}(S:dL K Hb Ob O H ρ σ)(E':dU K O H ρ' σ')(own:∀(i:Nat) x,ρ'[i]?=some (some x)->(∀d,x≠.val d)->σ'[i]?=σ[i]?/\ρ[i]?=some (some x)):dL K Hb Ob O H ρ' σ':=
 ⟨E',S.base,fun i xs a q1 q2=>by
  obtain⟨w1,w2⟩:=own i _ q1 (λ_ z=>nomatch z);rw[w1]at q2;exact S.mine i xs a w2 q2,λi d q=>by
  obtain⟨w1,w2⟩:=own i _ q (λ_ z=>nomatch z);refine(S.nst i d w2).to w1 (λ_ _ z=>z) (λb q1 q2 q3 q4 _=>⟨rfl,q1,q2,λl d' w=>?_⟩) λl d' w=>⟨d',(own l _ w (λ_ z=>nomatch z)).2⟩
  obtain⟨z1,z2⟩:=own l _ w (λ_ z=>nomatch z);rw[z1];exact q4 l d' z2⟩
structure Jw(X:Cx)(Hb:Hp)(Ob:List Qj)(E:Ends)(k:Ks)(r:R D):Prop where
 ne:r≠un
 nx:∀O ρ σ H,dL X.K Hb Ob O H ρ σ->k.nx ρ=r->E.nx σ H
 bk:∀O ρ σ H,dL X.K Hb Ob O H ρ σ->k.bk ρ=r->E.bk σ H
 ct:∀O ρ σ H,dL X.K Hb Ob O H ρ σ->k.ct ρ=r->E.ct σ H
 rt:∀d O v H,r=.ok d->Base Hb Ob H O->cO X.K (hid H O) d v->E.rt v H
 ex:∀O ρ σ H x,dL X.K Hb Ob O H ρ σ->k.ex x ρ=r->Ho X σ O H x
def Kb(X:Cx)(Hb:Hp)(Ob:List Qj)(F:cx):TS:=λE σ H=>∃O ρ k r,dL X.K Hb Ob O H ρ σ/\F k ρ=r/\Jw X Hb Ob E k r
def FS(X:Cx)(st:Qx)(F:cx):Prop:=∀Hb Ob,PS X st (Kb X Hb Ob F)
def xB(X:Cx)(st:List Qx)(F:cx):Prop:=∀Hb Ob,AD X st (Kb X Hb Ob F)
theorem iX.on{X:Cx}{Hb:Hp}{Ob O:List Qj}{H:Hp}{ρ:aw}{σ:St}{E:Ends}{k:Ks}{r:R D}{α:Type}{fr:R α}{G:α->R D}{Q:α->Prop}(h:si fr k ρ G=r)(hk:Jw X Hb Ob E k r)(S:dL X.K Hb Ob O H ρ σ)(q:∀a,G a=r->Q a):iX X σ O H fr Q:=by
 match fr,h with
 |.ok a,h=>exact q a h
 |.error (some x),h=>exact hk.ex O ρ σ H x S h
 |.error none,h=>exact absurd h.symm hk.ne
section
variable{X:Cx}{st:Qx}{rest body:List Qx}{pos:Pos}
def cz:cx:=λk ρ=>k.nx ρ
def aH(F1 F2:cx):cx:=λk ρ=>F1 {k with nx:=F2 k} ρ
theorem Jn:xB X [] cz:=λHb Ob=>AD.weak Eh λE σ H ⟨O,ρ,k,r,S,hF,hk⟩=>hk.nx O ρ σ H S hF
theorem HC{F1 F2:cx}(h1:FS X st F1)(h2:xB X rest F2):xB X (st::rest) (aH F1 F2):=λHb Ob=>AD.weak (CK (h1 Hb Ob) (h2 Hb Ob)) λE σ H ⟨O,ρ,k,r,S,hF,hk⟩=>
 ⟨O,ρ,{k with nx:=F2 k},r,S,hF,hk.ne,λO' ρ' σ' H' S' e=>⟨O',ρ',k,r,S',e,hk⟩,hk.bk,hk.ct,hk.rt,hk.ex⟩
theorem JE{F1:cx}(h1:FS X st F1):xB X [st] F1:=λHb Ob=>DW (h1 Hb Ob)
def bR(f:FX):cx:=λk ρ=>si (f ρ) k ρ .ok
theorem Lh{e:Qv}{f:FX}(h:FE X e f):FS X (.Return (some e) pos) (bR f):=λHb Ob=>PS.weak (Hf h) λE σ H ⟨O,ρ,k,r,S,hF,hk⟩=>
 ⟨O,ρ,S.env,iX.on hF hk S λd e v H' s' d'=>hk.rt d O v H' e.symm (S.base.same' s') d'⟩
def Ig:cx:=λ_ _=>.ok .non
def jt(c:aw->R Bool)(A B:cx):cx:=λk ρ=>si (c ρ) k ρ λb=>if b then A k ρ else B k ρ
theorem LN{c:Qv}{a b:List Qx}{tc:aw->R Bool}{A B:cx}(hc:FT X c tc)(ha:xB X a A)(hb:xB X b B):FS X (.If c a b pos) (jt tc A B):=λHb Ob=>PS.weak (Ip hc (ha Hb Ob) (hb Hb Ob)) λE σ H ⟨O,ρ,k,r,S,hF,hk⟩=>
 ⟨O,ρ,S.env,iX.on hF hk S fun z e H1 s1=>by
  cases z with
  |true=>exact Ck ⟨O,ρ,k,r,S.same s1,e,hk⟩
  |false=>exact Bl ⟨O,ρ,k,r,S.same s1,e,hk⟩⟩
def bB(i:Nat)(f:FX):cx:=λk ρ=>si (f ρ) k ρ λd=>k.nx (setV i d ρ)
theorem dL.setV{K:OZ}{Hb:Hp}{Ob O:List Qj}{H:Hp}{ρ:aw}{σ:St}(E:dL K Hb Ob O H ρ σ){i:Nat}{d:D}{v:V}(hi:i<σ.length)(hd:cO K (hid H O) d v):dL K Hb Ob O H (setV i d ρ) (σ.set i (some v)):=
  ⟨E.env.setV hi hd,E.base,fun j xs a e1 e2=>by
    rcases bp e1 with⟨_,q⟩|⟨ne,q⟩
    ·cases q
    · rw[Mz (Ne.symm ne)]at e2
      exact E.mine j xs a q e2,
   λj dn e=>by
    rcases bp e with⟨_,q⟩|⟨ne,q⟩
    ·cases q
    · refine(E.nst j dn q).to (Mz (Ne.symm ne)) (λ_ _ z=>z) (λb q1 q2 q3 q4 _=>⟨rfl,q1,q2,λl d' w=>?_⟩) λl d' w=>?_
      · rcases bp w with⟨_,z⟩|⟨nl,z⟩
        ·cases z
        ·rw[Mz (Ne.symm nl)];exact q4 l d' z
      · rcases bp w with⟨_,z⟩|⟨_,z⟩
        ·cases z
        ·exact⟨d',z⟩⟩
theorem tQ{f:FX}{i:Nat}(hi:i<X.N.length)(h:PS X st (Bt (tF X f) (uj i))):FS X st (bB i f):=λHb Ob pins s σ H E I ⟨O,ρ,k,r,S,hF,hk⟩=>
 h pins s σ H E I ⟨O,ρ,S.env,iX.on hF hk S λd e v H1 s1 d1=>hk.nx O _ _ H1 ((S.same s1).setV (by rw[I.len];exact hi) d1) e⟩
theorem Kk{i:Nat}{x:Str}{e:Qv}{f:FX}{pos':Pos}(hN:X.N.Nodup)(hi:X.N[i]?=some x)(hx:Loc X.env.scope x)(he:FE X e f)(hs:swapsWith e (some (.Name x pos')) pos.line X.env=pure false:=by rfl)(hf:X.fn x=true\/X.env.scope.names.lookup x=some .local:=by first|exact .inl rfl|exact .inr rfl|assumption):
  FS X (.Assign [.Name x pos'] e pos) (bB i f):=tQ (List.getElem?_eq_some_iff.mp hi).1 (xZ hN hi hx he hs hf)
theorem LU{elt tg iter:Qv}{ifs:List Qv}{scope:Qt}{N:List Str}{ix:List (Option Nat)}{G:aw->R (List D)}{g:GF}{C:aw->R Bool}{Fe:FX}{i:Nat}{y:Str}{lpos py spos:Pos}(hN:X.N.Nodup)(hi':X.N[i]?=some y)(hx:Loc X.env.scope y)
  (hc:X.calm=true) (ok:iy X scope N ix) (tk:p6 ix g) (hi:FI X tg iter G) (hb:Ht X scope N tg elt ifs g C Fe)
  (hsw:swapsWith (.ListComp elt [⟨tg,iter,ifs,0⟩] scope lpos) (some (.Name y py)) spos.line X.env=pure true:=by rfl)
  (hs:∀x,QG iter X.env x=pure x:=by intro _;rfl)
  (hf:X.fn y=true\/X.env.scope.names.lookup y=some .local:=by first|exact .inl rfl|exact .inr rfl|assumption):
  FS X (.Assign [.Name y py] (.ListComp elt [⟨tg,iter,ifs,0⟩] scope lpos) spos) (bB i (iW ix G g C Fe)):=
 tQ (List.getElem?_eq_some_iff.mp hi').1 (PS.weak (Fm hN hi' hx hc ok.cell ok.kind ok.names ok.free ok.ix hi hb.k hsw hs hf) λE σ H q=>Fd tk σ H _ q)
def DS(f:FX)(g:GF):cx:=λk ρ=>si (f ρ) k ρ λd=>(rO (g d ρ)).bind k.nx
theorem KU{tg e:Qv}{f:FX}{g:GF}(he:FE X e f)(hg:FG X tg g)(hs:swapsWithSole [tg] e pos.line X.env=pure false:=by rfl)(hw:swappedStores [tg] e X.env=pure none:=by rfl)
  (h1:(assignEach [tg] X.env).map (·.2)=[assign tg X.env]:=by rfl):FS X (.Assign [tg] e pos) (DS f g):=λHb Ob=>PS.weak (FL he hg hs hw h1) λE σ H ⟨O,ρ,k,r,S,hF,hk⟩=>
 ⟨O,ρ,S.env,iX.on hF hk S fun d e v H1 s1 d1=>by
  cases hg:g d ρ with
  |none=>rw[hg]at e;exact absurd e.symm hk.ne
  |some ρ1=>
   rw[hg]at e;refine⟨O,ρ,d,ρ1,(S.same s1).env,d1,hg,λσ' E' own=>hk.nx O ρ1 σ' H1 ((S.same s1).after E' own) e⟩⟩
def kill(is:List Nat)(ρ:aw):aw:=is.foldl (λρ i=>ρ.set i none) ρ
theorem jN:∀(is:List Nat)(ρ:aw)(i:Nat)(x:S),(kill is ρ)[i]?=some (some x)->ρ[i]?=some (some x)
 |[],ρ,i,x,e=>e
 |j::is,ρ,i,x,e=>by
  rcases bp (jN is (ρ.set j none) i x e)with⟨_,q⟩|⟨_,q⟩
  ·cases q
  ·exact q
theorem dL.kill{K:OZ}{Hb:Hp}{Ob O:List Qj}{H:Hp}{ρ:aw}{σ:St}(E:dL K Hb Ob O H ρ σ)(is:List Nat):dL K Hb Ob O H (kill is ρ) σ:=
 ⟨E.env.forget (jN is ρ),E.base,λi xs a e1 e2=>E.mine i xs a (jN is ρ i _ e1) e2,λi d q=>(E.nst i d (jN is ρ i _ q)).to rfl (λ_ _ z=>z) (λb q1 q2 q3 q4 _=>⟨rfl,q1,q2,λl d' w=>q4 l d' (jN is ρ l _ w)⟩) λl d' w=>⟨d',jN is ρ l _ w⟩⟩
def dX(is:List Nat)(F:cx):cx:=λk ρ=>F k (kill is ρ)
theorem Ie{st:List Qx}{F:cx}(is:List Nat)(h:xB X st F):xB X st (dX is F):=λHb Ob=>AD.weak (h Hb Ob) λE σ H ⟨O,ρ,k,r,S,hF,hk⟩=>⟨O,TG.kill is ρ,k,r,S.kill is,hF,hk⟩
end
def jq(g:GF)(B:cx)(k:Ks):List D->aw->R D
 |[],ρ=>k.nx ρ
 |d::ds,ρ=>(rO (g d ρ)).bind λρ1=>B ⟨jq g B k ds,k.nx,jq g B k ds,k.ex⟩ ρ1
def kC(G:aw->R (List D))(g:GF)(B:cx):cx:=λk ρ=>si (G ρ) k ρ λds=>jq g B k ds ρ
def lb(H:Hp)(O Ob:List Qj):Hp:=λb=>if b∈O/\b∉Ob then none else H b
theorem u6{H:Hp}{O Ob:List Qj}{b:Qj}(h1:b∈O)(h2:b∉Ob):lb H O Ob b=none:=by unfold lb;rw[if_pos ⟨h1,h2⟩]
theorem DV{H:Hp}{O Ob:List Qj}{b:Qj}{o:HO}(h:lb H O Ob b=some o):H b=some o/\¬(b∈O/\b∉Ob):=by
 unfold lb at h;split at h
 ·cases h
 ·rename_i n;exact⟨h,n⟩
theorem Bh{H:Hp}{O Ob:List Qj}{b:Qj}{o:HO}(h:H b=some o)(n:¬(b∈O/\b∉Ob)):lb H O Ob b=some o:=by unfold lb;rw[if_neg n];exact h
theorem Base.loop{Hb:Hp}{Ob:List Qj}{H:Hp}{O:List Qj}(b:Base Hb Ob H O):Base (lb H O Ob) Ob H O:=
 ⟨fun c o h=>(DV h).1,b.sub,fun a ha=>by
  by_cases h:a∈Ob
  ·exact .inl h
  ·exact .inr (u6 ha h)⟩
theorem Base.back{Hb:Hp}{Ob:List Qj}{H H':Hp}{O O':List Qj}(b:Base Hb Ob H O)(b':Base (lb H O Ob) Ob H' O'):Base Hb Ob H' O':=by
 have up:bz Hb (lb H O Ob):=λc o h=>Bh (b.same c o h) λ⟨z1,z2⟩=>by
  rcases b.new c z1 with z|z
  ·exact z2 z
  ·rw[z]at h;cases h
 exact⟨up.trans b'.same,b'.sub,λa ha=>(b'.new a ha).imp id up.free⟩
theorem dL.loop{K:OZ}{Hb:Hp}{Ob O:List Qj}{H:Hp}{ρ:aw}{σ:St}(E:dL K Hb Ob O H ρ σ):dL K (lb H O Ob) Ob O H ρ σ:=
 ⟨E.env,E.base.loop,fun i xs a e1 e2=>by
  obtain⟨_,n⟩:=E.mine i xs a e1 e2;obtain⟨a',e3,e4,_⟩:=E.env.own i xs e1;rw[e2]at e3;cases e3;exact⟨u6 e4 n,n⟩,λi d q=>(E.nst i d q).to rfl (λ_ _ z=>z) (λb q1 q2 q3 q4 _=>⟨rfl,q1,u6 q1 q3,q4⟩) λl d' w=>⟨d',w⟩⟩
theorem dL.back{K:OZ}{Hb:Hp}{Ob O O':List Qj}{H H':Hp}{ρ':aw}{σ':St}(b:Base Hb Ob H O)(E:dL K (lb H O Ob) Ob O' H' ρ' σ'):dL K Hb Ob O' H' ρ' σ':=
 have up:bz Hb (lb H O Ob):=λc o h=>Bh (b.same c o h) λ⟨z1,z2⟩=>by
  rcases b.new c z1 with z|z
  ·exact z2 z
  ·rw[z]at h;cases h
 ⟨E.env,b.back E.base,fun i xs a e1 e2=>by
  obtain⟨z,n⟩:=E.mine i xs a e1 e2;exact⟨up.free z,n⟩,λi d q=>(E.nst i d q).to rfl (λ_ _ z=>z) (λb q1 q2 q3 q4 _=>⟨rfl,q1,up.free q2,q4⟩) λl d' w=>⟨d',w⟩⟩
theorem B8{Hb:Hp}{Ob O O':List Qj}{H H':Hp}(b:Base Hb Ob H O)(b':Base (lb H O Ob) Ob H' O'):bz (hid H O) (hid H' O'):=λc o h=>by
 unfold hid at h ⊢;by_cases hc:c∈O
 ·rw[if_pos hc]at h;cases h
 ·rw[if_neg hc]at h;have h1:lb H O Ob c=some o:=Bh h λz=>hc z.1;rw[if_neg]
  ·exact b'.same _ _ h1
  ·intro z;rcases b'.new c z with z|z
   ·exact hc (b.sub c z)
   ·rw[h1]at z;cases z
theorem Jw.loop{X:Cx}{Hb:Hp}{Ob O:List Qj}{H:Hp}{E E':Ends}{k k':Ks}{r:R D}(hk:Jw X Hb Ob E k r)(b:Base Hb Ob H O)(hn:∀O' ρ' σ' H',dL X.K (lb H O Ob) Ob O' H' ρ' σ'->k'.nx ρ'=r->E'.nx σ' H')(hc:∀O' ρ' σ' H',dL X.K (lb H O Ob) Ob O' H' ρ' σ'->k'.ct ρ'=r->E'.ct σ' H')
    (eb:k'.bk=k.nx) (ee:k'.ex=k.ex) (Eb:E'.bk=E.nx) (Er:E'.rt=E.rt):Jw X (lb H O Ob) Ob E' k' r:=
  ⟨hk.ne,hn,fun O' ρ' σ' H' S e=>by rw [Eb]; exact hk.nx O' ρ' σ' H' (S.back b) (by rw [<- eb]; exact e),hc,fun d O' v H' e b' dv=>by rw [Er]; exact hk.rt d O' v H' e (b.back b') dv,
   λO' ρ' σ' H' x S e=>hk.ex O' ρ' σ' H' x (S.back b) (by rw[<-ee];exact e)⟩
section
variable{X:Cx}{st:Qx}{rest body:List Qx}{pos:Pos}
theorem KY{tg iter:Qv}{G:aw->R (List D)}{g:GF}{B:cx}(hp:QF (model X.prog X.w) X.A X.env X.xe)(hc:X.calm=true)(hi:FI X tg iter G)(hg:FG X tg g)(hb:xB X body B)
  (hs:∀x,QG iter X.env x=pure x:=by intro _;rfl):FS X (.For tg iter body [] pos) (kC G g B):=λHb Ob pins s σ H E I ⟨O,ρ,k,r,S,hF,hk⟩=>by
 have hall:AD X body (λE σ H=>∃Hb',Kb X Hb' Ob B E σ H):=λpins s σ H E I ⟨Hb',q⟩=>hb Hb' Ob pins s σ H E I q;refine G9 hp hc hi hg hall hs pins s σ H E I ⟨O,ρ,S.env,iX.on hF hk S λds hF J H1 s1 wk=>?_⟩;have E1:=S.same s1;refine⟨λi m σ H=>m=ds.length-i/\i<=ds.length/\∃O' ρ',dL X.K (lb H1 O Ob) Ob O' H ρ' σ/\jq g B k (ds.drop i) ρ'=r,
  ⟨ds.length,by rw[ND],MI _,O,ρ,E1.loop,by rw[Nm];exact hF⟩,?_⟩
 rintro i m σ' H' ⟨rfl,hi',O',ρ',E',hr⟩;have sD:=B8 E1.base E'.base;by_cases hlt:i<ds.length
 ·right;obtain⟨go,yl⟩:=(wk H' O' i E'.env.all sD).1 ds[i] (by simp[hlt]);refine⟨go,λσ2 H2=>ds.length-(i+1)=ds.length-(i+1)/\i+1<=ds.length/\∃O' ρ',dL X.K (lb H1 O Ob) Ob O' H2 ρ' σ2/\jq g B k (ds.drop (i+1)) ρ'=r,λσ2 H2 z=>⟨ds.length-(i+1),by omega,z⟩,λx H2 y=>?_⟩;obtain⟨s2,dx⟩:=yl x H2 y;have E':=E'.same s2;rw[NF hlt]at hr;cases hg':g ds[i] ρ' with
  |none=>
   have hr':(rO (g ds[i] ρ')).bind (λρ1=>B ⟨jq g B k (ds.drop (i+1)),k.nx,jq g B k (ds.drop (i+1)),k.ex⟩ ρ1)=r:=hr;rw[hg']at hr';exact absurd hr'.symm hk.ne
  |some ρ1=>
   have hr':(rO (g ds[i] ρ')).bind (λρ1=>B ⟨jq g B k (ds.drop (i+1)),k.nx,jq g B k (ds.drop (i+1)),k.ex⟩ ρ1)=r:=hr;rw[hg']at hr';refine⟨O',ρ',ds[i],ρ1,E'.env,dx,hg',λσ3 E3 own=>?_⟩;have E3':dL X.K (lb H1 O Ob) Ob O' H2 ρ1 σ3:=E'.after E3 own;exact⟨lb H1 O Ob,O',ρ1,⟨jq g B k (ds.drop (i+1)),k.nx,jq g B k (ds.drop (i+1)),k.ex⟩,r,E3',hr',hk.loop E1.base (λO4 ρ4 σ4 H4 E4 z=>⟨rfl,hlt,O4,ρ4,E4,z⟩) (λO4 ρ4 σ4 H4 E4 z=>⟨rfl,hlt,O4,ρ4,E4,z⟩) rfl rfl rfl rfl⟩
 ·left;have ei:i=ds.length:=by omega
  subst ei;refine⟨(wk H' O' ds.length E'.env.all sD).2 rfl,?_⟩;rw[NM]at hr;exact hk.nx O' ρ' σ' H' (E'.back E1.base) hr
end
end TG
namespace TG
open PySem PySem.Spec L2
variable[bc]
theorem dL.setO{K:OZ}{Hb:Hp}{Ob O:List Qj}{H:Hp}{ρ:aw}{σ:St}(E:dL K Hb Ob O H ρ σ){i:Nat}{d d':D}{a:Qj}{o:HO}(hi:ρ[i]?=some (some (.own d)))(ha:σ[i]?=some (some (.ref a)))(m:sE o)(new:eE K (upd H a o) O a d'):
  dL K Hb Ob O (upd H a o) (ρ.set i (some (.own d'))) σ:=by
 obtain⟨a',ha',haO,hat⟩:=E.env.own i d hi;rw[ha]at ha';cases ha';obtain⟨m1,m2⟩:=E.mine i d a hi ha;have s:bz (hid H O) (hid (upd H a o) O):=jj haO;have own:∀(j:Nat) ys,(ρ.set i (some (.own d')))[j]?=some (some (.own ys))->∃ys',ρ[j]?=some (some (.own ys')):=λj ys q=>by
  rcases bp q with⟨hj,_⟩|⟨_,q⟩
  ·rw[hj];exact⟨d,hi⟩
  ·exact⟨ys,q⟩
 refine⟨⟨λj d1 e=>?_,λj ys e=>?_,λj l ys zs b q1 q2 q3 q4=>?_,E.env.all.upd haO m⟩,⟨λb u h=>?_,E.base.sub,E.base.new⟩,λj ys b q1 q2=>?_,λj dn q=>?_⟩
 ·rcases bp e with⟨_,q⟩|⟨ne,q⟩
  ·cases q
  ·obtain⟨w,q1,q2⟩:=E.env.val j d1 q;exact⟨w,q1,q2.mono s⟩
 ·rcases bp e with⟨hj,q⟩|⟨ne,q⟩
  ·cases q;rw[hj];exact⟨a,ha,haO,new⟩
  ·obtain⟨b,q1,q2,q3⟩:=E.env.own j ys q;have nb:b≠a:=λz=>ne (E.env.one j i ys d a q hi (by rw[<-z];exact q1) ha);exact⟨b,q1,q2,q3.mono (by rw[aM nb]) s⟩
 ·obtain⟨_,q1'⟩:=own j ys q1;obtain⟨_,q2'⟩:=own l zs q2;exact E.env.one j l _ _ b q1' q2' q3 q4
 ·have nb:b≠a:=λz=>by rw[z,m1]at h;cases h
  rw[aM nb];exact E.base.same b u h
 ·obtain⟨ys',q⟩:=own j ys q1;exact E.mine j ys' b q q2
 ·have q:ρ[j]?=some (some (.nest dn)):=by
   rcases bp q with⟨_,z⟩|⟨_,z⟩
   ·cases z
   ·exact z
  refine(E.nst j dn q).to rfl s (λb q1 q2 q3 q4 _=>⟨aM λz=>q4 i d hi (by rw[z];exact ha),q1,q2,λl d1 w=>?_⟩) λl d1 w=>?_
  ·obtain⟨_,w'⟩:=own l d1 w;exact q4 l _ w'
  ·rcases bp w with⟨_,z⟩|⟨_,z⟩
   ·cases z
   ·exact⟨d1,z⟩
theorem dL.setNew{K:OZ}{Hb:Hp}{Ob O:List Qj}{H H':Hp}{ρ:aw}{σ:St}(E:dL K Hb Ob O H ρ σ){i:Nat}{d:D}{p:Qj}(hi:i<σ.length)(sm:bz H H')(hp:H p=none)(m:∃o,H' p=some o/\sE o)(new:eE K H' (p::O) p d):
  dL K Hb Ob (p::O) H' (ρ.set i (some (.own d))) (σ.set i (some (.ref p))):=by
 have hpO:p∉O:=E.env.all.not hp;have s:bz (hid H O) (hid H' (p::O)):=λb o h=>by
  unfold hid at h ⊢;by_cases hb:b∈O
  ·rw[if_pos hb]at h;cases h
  ·rw[if_neg hb]at h;have ne:=bd h hp;rw[if_neg (by intro z;rcases List.mem_cons.mp z with z|z;exact ne z;exact hb z)];exact sm _ _ h
 have other:∀(j:Nat) xs,ρ[j]?=some (some (.own xs))->σ[j]?≠some (some (.ref p)):=λj xs e z=>by
  obtain⟨a,e1,e2,e3⟩:=E.env.own j xs e;rw[z]at e1;cases e1;obtain⟨o,e3⟩:=e3.some;rw[hp]at e3;cases e3
 refine⟨⟨λj d' e=>?_,λj xs e=>?_,λj k xs ys a e1 e2 e3 e4=>?_,⟨(E.env.all.same sm).1,λa ha=>?_⟩⟩,⟨E.base.same.trans sm,λa ha=>Mw _ (E.base.sub a ha),λa ha=>?_⟩,λj xs a e1 e2=>?_,λj dn e=>?_⟩
 ·rcases bp e with⟨_,q⟩|⟨ne,q⟩
  ·cases q
  ·obtain⟨v,q1,q2⟩:=E.env.val j d' q;exact⟨v,by rw[Mz (Ne.symm ne)];exact q1,q2.mono s⟩
 ·rcases bp e with⟨hj,q⟩|⟨ne,q⟩
  ·cases q;rw[hj];exact⟨p,My hi,Mv,new⟩
  ·obtain⟨a,q1,q2,q3⟩:=E.env.own j xs q;obtain⟨o,ho⟩:=q3.some;exact⟨a,by rw[Mz (Ne.symm ne)];exact q1,Mw _ q2,q3.mono (qq sm ho) s⟩
 ·rcases bp e1 with⟨hj,q1⟩|⟨nj,q1⟩
  ·rcases bp e2 with⟨hk,q2⟩|⟨nk,q2⟩
   ·exact hj.trans hk.symm
   ·rw[hj,My hi]at e3;cases e3;rw[Mz (Ne.symm nk)]at e4;exact absurd e4 (other k ys q2)
  ·rcases bp e2 with⟨hk,q2⟩|⟨nk,q2⟩
   ·rw[hk,My hi]at e4;cases e4;rw[Mz (Ne.symm nj)]at e3;exact absurd e3 (other j xs q1)
   ·rw[Mz (Ne.symm nj)]at e3;rw[Mz (Ne.symm nk)]at e4;exact E.env.one j k xs ys a q1 q2 e3 e4
 ·rcases List.mem_cons.mp ha with rfl|ha
  ·exact m
  ·exact(E.env.all.same sm).2 a ha
 ·rcases List.mem_cons.mp ha with rfl|ha
  ·exact .inr (E.base.same.free hp)
  ·exact E.base.new a ha
 ·rcases bp e1 with⟨hj,q1⟩|⟨nj,q1⟩
  ·rw[hj,My hi]at e2;cases e2;exact⟨E.base.same.free hp,λz=>hpO (E.base.sub p z)⟩
  ·rw[Mz (Ne.symm nj)]at e2;exact E.mine j xs a q1 e2
 ·rcases bp e with⟨_,q⟩|⟨ne,q⟩
  ·cases q
  ·refine(E.nst j dn q).to (Mz (Ne.symm ne)) s (λb q1 q2 q3 q4 ⟨o,ho⟩=>⟨by rw[ho,sm _ _ ho],Mw _ q1,q2,λl d1 w=>?_⟩) λl d1 w=>?_
   ·rcases bp w with⟨hl,z⟩|⟨nl,z⟩
    ·rw[hl,My hi];intro z;cases z;rw[hp]at ho;cases ho
    ·rw[Mz (Ne.symm nl)];exact q4 l d1 z
   ·rcases bp w with⟨_,z⟩|⟨_,z⟩
    ·cases z
    ·exact⟨d1,z⟩
def Kl(X:Cx)(F:FX):TE:=λσ H Q=>∃O ρ,dU X.K O H ρ σ/\iX X σ O H (F ρ) λd=>∀p H',bz H H'->H p=none->(∃o,H' p=some o/\sE o)->eE X.K H' (p::O) p d->Q (.ref p) H'
def FN(X:Cx)(e:Qv)(F:FX):Prop:=PE X e (Kl X F)
section
variable{X:Cx}{pos:Pos}
theorem vO{K:OZ}{H:Hp}{O:List Qj}{p:Qj}{ds:List D}{vs:List V}(hp:H p=none)(d:bh K (hid H O) ds vs):eE K (upd H p (.lst vs)) (p::O) p (.lst ds):=⟨_,vs,aZ,rfl,d.mono (qZ hp)⟩
theorem Lc{es:List Qv}{g:aw->R (List D)}(h:FA X es g):FN X (.List es pos) (fJ g):=
 PE.weak (rV h) λσ H Q ⟨O,ρ,E,hF⟩=>⟨O,ρ,E,(iX.bind hF).imp λxs hF vs H1 s1 d1=>by
  obtain⟨d,e,q⟩:=iX.rO hF;obtain⟨hz,e⟩:=bP e;subst e;refine⟨by rw[<-d1.length];exact eD hz,λp hp=>?_⟩;exact q p _ (s1.trans (bW hp _)) (s1.free hp) ⟨_,aZ,trivial⟩ (vO hp d1)⟩
def tS:FX:=λ_=>.ok (.dct [] [])
theorem IC:FN X (.Dict [] [] pos) tS:=PE.weak Dd λσ H Q ⟨O,ρ,E,q⟩ p hp=>q p _ (bW hp _) hp ⟨_,aZ,trivial⟩ ⟨_,[],aZ,cU.mpr rfl,.inr ⟨[],rfl,rfl,rfl⟩⟩
def kP(i:Nat)(f:FX):cx:=λk ρ=>si (f ρ) k ρ λd=>k.nx (ρ.set i (some (.own d)))
theorem sO{st:Qx}{f:FX}{i:Nat}(hi:i<X.N.length)(h:PS X st (Bt (Kl X f) (uj i))):FS X st (kP i f):=λHb Ob pins s σ H E I ⟨O,ρ,k,r,S,hF,hk⟩=>
 h pins s σ H E I ⟨O,ρ,S.env,iX.on hF hk S λd e p H1 s1 hp m o=>hk.nx _ _ _ H1 (S.setNew (by rw[I.len];exact hi) s1 hp m o) e⟩
theorem Kf{i:Nat}{x:Str}{e:Qv}{f:FX}{pos':Pos}(hN:X.N.Nodup)(hi:X.N[i]?=some x)(hx:Loc X.env.scope x)(he:FN X e f)(hs:swapsWith e (some (.Name x pos')) pos.line X.env=pure false:=by rfl)(hf:X.fn x=true\/X.env.scope.names.lookup x=some .local:=by first|exact .inl rfl|exact .inr rfl|assumption):
  FS X (.Assign [.Name x pos'] e pos) (kP i f):=sO (List.getElem?_eq_some_iff.mp hi).1 (xZ hN hi hx he hs hf)
end
theorem EY{X:Cx}{F:FX}:∀σ H Q,Kl X F σ H Q->KD X F σ H Q:=λσ H Q ⟨O,ρ,E,hF⟩=>⟨O,ρ,E,hF.imp λd q D H' total acc e sm hD hD' dn=>by
 subst e;exact q D H' sm hD ⟨_,hD',trivial⟩ ⟨_,acc,hD',rfl,dn⟩⟩
theorem IW{X:Cx}{elt tg iter:Qv}{ifs:List Qv}{scope:Qt}{N:List Str}{ix:List (Option Nat)}{G:aw->R (List D)}{g:GF}{C:aw->R Bool}{Fe:FX}{i:Nat}{y:Str}{lpos py spos:Pos}(hN:X.N.Nodup)(hi':X.N[i]?=some y)(hx:Loc X.env.scope y)
  (hc:X.calm=true) (ok:iy X scope N ix) (tk:p6 ix g) (hi:FI X tg iter G) (hb:Ht X scope N tg elt ifs g C Fe)
  (hsw:swapsWith (.ListComp elt [⟨tg,iter,ifs,0⟩] scope lpos) (some (.Name y py)) spos.line X.env=pure true:=by rfl)
  (hs:∀x,QG iter X.env x=pure x:=by intro _;rfl)
  (hf:X.fn y=true\/X.env.scope.names.lookup y=some .local:=by first|exact .inl rfl|exact .inr rfl|assumption):
  FS X (.Assign [.Name y py] (.ListComp elt [⟨tg,iter,ifs,0⟩] scope lpos) spos) (kP i (iW ix G g C Fe)):=
 sO (List.getElem?_eq_some_iff.mp hi').1 (PS.weak (Fm hN hi' hx hc ok.cell ok.kind ok.names ok.free ok.ix hi hb.k hsw hs hf) λE σ H q=>CL tk σ H _ (EY σ H _ q))
theorem LO{X:Cx}{elt tg iter:Qv}{ifs:List Qv}{scope:Qt}{pos:Pos}{N:List Str}{ix:List (Option Nat)}{G:aw->R (List D)}{g:GF}{C:aw->R Bool}{Fe:FX}(hc:X.calm=true)(ok:iy X scope N ix)(tk:p6 ix g)(hi:FI X tg iter G)(hb:Ht X scope N tg elt ifs g C Fe)
  (hs:∀x,QG iter X.env x=pure x:=by intro _;rfl):FN X (.ListComp elt [⟨tg,iter,ifs,0⟩] scope pos) (iW ix G g C Fe):=
 PE.weak (ED hc ok.cell ok.kind ok.names ok.free ok.ix hi hb.k hs) λσ H Q q=>CL tk σ H _ (EY σ H _ q)
def xA(i:Nat)(u:List D->List D->Option (List D))(f:aw->R (List D)):cx:=λk ρ=>match ρ[i]? with
 |some (some (.own (.lst xs)))=>si (f ρ) k ρ λds=>(rO (u xs ds)).bind λys=>k.nx (ρ.set i (some (.own (.lst ys))))
 |_=>un
def Bs(K:OZ)(r:V->List V->Hp->VK->Prop)(u:List D->List D->Option (List D)):Prop:=
 ∀(H:Hp)(O:List Qj)(a:Qj)(xs ys as:List D)(ws vs:List V)(Q:VK),dQ H O->a∈O->H a=some (.lst ws)->bh K (hid H O) xs ws->bh K (hid H O) as vs->u xs as=some ys->(∀ws' v,bh K (hid H O) ys ws'->Q v (upd H a (.lst ws')))->r (.ref a) vs H Q
theorem wy{K:OZ}{H:Hp}{O:List Qj}{a:Qj}{ys:List D}{ws:List V}(ha:a∈O)(h:bh K (hid H O) ys ws):eE K (upd H a (.lst ws)) O a (.lst ys):=⟨_,ws,aZ,rfl,h.mono (jj ha)⟩
theorem LJ{X:Cx}{i:Nat}{x m:Str}{id:String}{r:V->List V->Hp->VK->Prop}{u:List D->List D->Option (List D)}{e:Qv}{es:List Qv}{f:aw->R (List D)}{npos apos cpos pos:Pos}(slot:Slot "list" m id)(hty:typeOf (.builtin id)=pure (.type "method_descriptor"))(hm:K7 X id r)(ok:Bs X.K r u)(hx:PE X (.Name x npos) (wG i))(he:FA X (e::es) f)
  (hbase:Q8 (.Name x npos) m X.env (eval (.Name x npos) X.env)=eval (.Name x npos) X.env:=by rfl)
  (hfew:((backTo cpos (Qw (e::es) X.env)).all (fun x=>!x.1) && (backToKw cpos (QO [] X.env)).all (fun x=>x.1.isSome)
   && decide ((e::es:List Qv).length+([]:List Q9).length+(if([]:List Q9).isEmpty then 0 else 1)<30))=true:=by rfl)
  (hline:(apos.endLine==cpos.line)=true:=by rfl) (hs:Qw (e::es) X.env=(false,eval e X.env)::Qw es X.env:=by rfl) (hplain:(backTo cpos (Qw es X.env)).any (·.1)=false:=by rfl)
  (hsw:swapsWith (.Call (.Attribute (.Name x npos) m apos) (e::es) [] cpos) none pos.line X.env=pure false:=by rfl):
  FS X (.Expr (.Call (.Attribute (.Name x npos) m apos) (e::es) [] cpos) pos) (xA i u f):=λHb Ob pins s σ H E I ⟨O,ρ,k,rr,S,hF,hk⟩=>by
 unfold xA at hF;split at hF
 ·rename_i xs hxs;obtain⟨a,ha,haO,hat⟩:=S.env.own i _ hxs;obtain⟨o,vs0,ho,eo,dn⟩:=hat;subst eo;refine yP (Fl F.plainAttrs_list slot hty hm hx he hbase hfew hline hs hplain) hsw pins s σ H E I ⟨.ref a,ha,.inl ⟨rfl,vs0,nG.of ho⟩,O,ρ,S.env,iX.on hF hk S λds hr vs H1 s1 d1=>?_⟩;have S1:=S.same s1;cases hu1:u xs ds with
  |none=>rw[hu1]at hr;exact absurd hr.symm hk.ne
  |some ys=>
   rw[hu1]at hr;exact ok H1 O a xs ys ds vs0 vs _ S1.env.all haO (s1 _ _ ho) (dn.mono (cw s1)) d1 hu1 λws' v new=>hk.nx O _ σ _ (S1.setO hxs ha trivial (wy haO new)) hr
 ·exact absurd hF.symm hk.ne
def eQ(xs:List D)(ds:List D):Option (List D):=match ds with
 |[y]=>if small (xs.length+1)then some (xs++[y])else none
 |_=>none
theorem dS{K:OZ}:Bs K y9 eQ:=λH O a xs ys as ws vs Q hO haO ha dx da hu q=>by
 unfold eQ at hu;split at hu
 ·rename_i y;obtain⟨h1,h2⟩:=bP hu;subst h2;obtain⟨v,rfl,dv⟩:=da.one
  have:=eD h1
  rw[dx.length]at this;exact⟨a,ws,v,rfl,rfl,ha,by omega,q _ _ (dx.snoc dv)⟩
 ·cases hu
def frz(i:Nat)(ρ:aw):aw:=match ρ[i]? with
 |some (some (.own d))=>setV i d ρ
 |_=>ρ
theorem dU.frz{K:OZ}{O:List Qj}{H:Hp}{ρ:aw}{σ:St}(E:dU K O H ρ σ)(i:Nat):∃O',dU K O' H (frz i ρ) σ/\(∀b∈O',b∈O)/\∀b∈O,b∉O'->∃d,ρ[i]?=some (some (.own d))/\σ[i]?=some (some (.ref b)):=by
 unfold TG.frz;split
 ·rename_i d hd;obtain⟨a,ha,haO,hat⟩:=E.own i d hd;have sub:∀b∈O.filter (λb=>decide (b≠a)),b∈O:=λb hb=>(List.mem_filter.mp hb).1;have s:bz (hid H O) (hid H (O.filter λb=>decide (b≠a))):=iP sub;have na:a∉O.filter λb=>decide (b≠a):=λz=>absurd rfl (of_decide_eq_true (List.mem_filter.mp z).2);refine⟨O.filter λb=>decide (b≠a),⟨λj d' e=>?_,λj ys e=>?_,λj l ys zs b q1 q2 q3 q4=>?_,⟨E.all.1,λb hb=>E.all.2 b (sub b hb)⟩⟩,sub,λb hb nb=>?_⟩
  ·rcases bp e with⟨hj,q⟩|⟨ne,q⟩
   ·cases q;rw[hj];exact⟨.ref a,ha,hat.den s na⟩
   ·obtain⟨w,q1,q2⟩:=E.val j d' q;exact⟨w,q1,q2.mono s⟩
  ·rcases bp e with⟨_,q⟩|⟨ne,q⟩
   ·cases q
   ·obtain⟨b,q1,q2,q3⟩:=E.own j ys q;have nb:b≠a:=λz=>ne (E.one j i ys d a q hd (by rw[<-z];exact q1) ha);exact⟨b,q1,List.mem_filter.mpr ⟨q2,decide_eq_true nb⟩,q3.mono rfl s⟩
  ·rcases bp q1 with⟨_,q⟩|⟨_,q⟩
   ·cases q
   ·rcases bp q2 with⟨_,q'⟩|⟨_,q'⟩
    ·cases q'
    ·exact E.one j l ys zs b q q' q3 q4
  ·by_cases z:b=a
   ·exact⟨d,hd,by rw[z];exact ha⟩
   ·exact absurd (List.mem_filter.mpr ⟨hb,decide_eq_true z⟩) nb
 ·exact⟨O,E,λ_ z=>z,λb hb nb=>absurd hb nb⟩
theorem dL.frz{K:OZ}{Hb:Hp}{Ob O:List Qj}{H:Hp}{ρ:aw}{σ:St}(E:dL K Hb Ob O H ρ σ)(i:Nat):∃O',dL K Hb Ob O' H (frz i ρ) σ:=by
 obtain⟨O',E',sub,gone⟩:=E.env.frz i;refine⟨O',E',⟨E.base.same,λa ha=>?_,λa ha=>E.base.new a (sub a ha)⟩,λj xs a q1 q2=>?_,λj dn q1=>?_⟩
 ·by_cases z:a∈O'
  ·exact z
  ·obtain⟨d,e1,e2⟩:=gone a (E.base.sub a ha) z;exact absurd ha (E.mine i d a e1 e2).2
 ·have q:ρ[j]?=some (some (.own xs)):=by
   unfold TG.frz at q1;split at q1
   ·rcases bp q1 with⟨_,q⟩|⟨_,q⟩
    ·cases q
    ·exact q
   ·exact q1
  exact E.mine j xs a q q2
 ·have bk:∀(l:Nat) x,(TG.frz i ρ)[l]?=some (some x)->(∀d,x≠.val d)->ρ[l]?=some (some x):=λl x e nv=>by
   unfold TG.frz at e;split at e
   ·rcases bp e with⟨_,q⟩|⟨_,q⟩
    ·cases q;exact absurd rfl (nv _)
    ·exact q
   ·exact e
  refine(E.nst j dn (bk j _ q1 (λ_ z=>nomatch z))).to rfl (iP sub) (λb w1 w2 w3 w4 _=>⟨rfl,?_,w2,λl d1 w=>w4 l d1 (bk l _ w (λ_ z=>nomatch z))⟩) λl d1 w=>⟨d1,bk l _ w (λ_ z=>nomatch z)⟩
  by_cases z:b∈O'
  ·exact z
  ·obtain⟨d,e1,e2⟩:=gone b w1 z;exact absurd e2 (w4 i d e1)
def fZ(i:Nat)(F:cx):cx:=λk ρ=>F k (frz i ρ)
theorem JD{X:Cx}{st:List Qx}{F:cx}(i:Nat)(h:xB X st F):xB X st (fZ i F):=λHb Ob=>AD.weak (h Hb Ob) λE σ H ⟨O,ρ,k,r,S,hF,hk⟩=>by
 obtain⟨O',S'⟩:=S.frz i;exact⟨O',TG.frz i ρ,k,r,S',hF,hk⟩
def frzs(is:List Nat)(ρ:aw):aw:=is.foldl (λρ i=>frz i ρ) ρ
theorem dU.frzs{K:OZ}{H:Hp}{σ:St}:∀(is:List Nat){O:List Qj}{ρ:aw},dU K O H ρ σ->∃O',dU K O' H (frzs is ρ) σ
 |[],O,_,E=>⟨O,E⟩
 |i::is,_,_,E=>by
  obtain⟨O',E',_⟩:=E.frz i;exact dU.frzs is E'
def lI(is:List Nat)(f:aw->R Bool):aw->R Bool:=λρ=>Ci (f (frzs is ρ))
theorem JF{X:Cx}{e:Qv}{f:aw->R Bool}(is:List Nat)(h:FT X e f):FT X e (lI is f):=PT.weak h λσ H Q ⟨O,ρ,E,hF⟩=>by
 obtain⟨O',E'⟩:=E.frzs is;refine⟨O',TG.frzs is ρ,E',?_⟩;unfold lI at hF;cases hf:f (TG.frzs is ρ)with
 |error z=>rw[hf]at hF;exact hF.elim
 |ok d=>rw[hf]at hF;exact hF
end TG
namespace TG
open PySem PySem.Spec L2
variable[bc]
def Bd(K:OZ)(n:Nat)(g:List D->R D):Sp:=λvs H Q E=>∃O ds,vs.length=n/\dQ H O/\bh K (hid H O) ds vs/\match g ds with
 |.ok d=>∀v H',bz H H'->cO K (hid H' O) d v->Q v H'
 |.error (some x)=>Kh K H O x E
 |.error none=>False
section
variable{X:Cx}{k:Nat}{f C:Qj}{fd:QR}{ps:List Str}{sp:Sp}{x m:Str}{p pos apos:Pos}{e o:Qv}{es:List Qv}{ta:TE}{t:TA}
theorem zx{pins:List (Qj×Obj)}{σ:St}{H:Hp}{s:Qs}{Q:VK}{E:XK}{us:List Qg}{vs:List V}(F:mU X.prog X.w X.K X.mg X.base (nF X.prog X.w) k f fd ps sp)(hr:iB k X.A)(hb:Binds X.K fd ps [])(hx:lL (nF X.prog X.w) X σ E)
  (I:Inv X pins σ H s) (r:Vals vs us) (h:sp vs H Q E):Qu (model X.prog X.w) X.A (call (.ref f) us) (EP X pins σ Q) X.xe s:=by
 have hl:(us++[]).length=ps.length:=by rw[MJ,<-r.length];exact F.len _ _ _ _ h
 have hb':=hb s us I.kIn hl;rw[MJ]at hb';refine wpAny_call (codeAny_mono (F.run X.A X.stack s H ⟨us,[]⟩ us vs Q E hr I.env0 hb' r h) λr s' hq=>?_);cases r with
 |error e=>exact hx pins H s e s' I hq
 |ok fl=>
  cases fl with
  |ret u=>exact I.after hq
  |next=>exact False.elim hq
  |brk=>exact False.elim hq
  |cont=>exact False.elim hq
def C3(X:Cx)(sp:Sp)(t:TA):TE:=λσ H Q=>t σ H λvs H1=>∃E,lL (nF X.prog X.w) X σ E/\sp vs H1 Q E
theorem CD(F:mU X.prog X.w X.K X.mg X.base (nF X.prog X.w) k f fd ps sp)(hr:iB k X.A)(hg:Gl X x)(hm:X.mg x=some (.ref f))(hk:Ph X.K (.ref f)=true)(hb:Binds X.K fd ps [])
  (ha:PA X (e::es) t) (hdb:(x==("__debug__":Str))=false:=by decide) (he:Qw (e::es) X.env=(false,eval e X.env)::Qw es X.env:=by rfl) (hpl:(backTo pos (Qw es X.env)).any (·.1)=false:=by rfl):
  PE X (.Call (.Name x p) (e::es) [] pos) (C3 X sp t):=by
 intro pins s σ H Q I h;refine QV (zg I hg hm ?_ hdb);refine Pq (h₀:=X.base) I.ok.mod.kin hk (eJ (ha pos pins s σ H _ I h) λus s1 ⟨vs,H1,I1,r,E,hx,q⟩=>⟨I1.kIn,?_⟩) he hpl;exact zx F hr hb hx I1 r q
theorem Ae{n:Nat}{g:List D->R D}{f:aw->R (List D)}(hn:∀ds,g ds≠un->ds.length=n):∀σ H Q,tF X (fR g f) σ H Q->C3 X (Bd X.K n g) (Lb X f) σ H Q:=λσ H Q ⟨O,ρ,E,hF⟩=>
 ⟨O,ρ,E,(iX.bind hF).imp fun ds hF vs H1 s1 d1=>by
  cases hg:g ds with
  |ok d=>
   rw[hg]at hF;refine⟨E0,zG,O,ds,by rw[<-d1.length];exact hn ds (by rw[hg];intro z;cases z),E.all.same s1,d1,?_⟩;rw[hg];exact λv H2 s2 d2=>hF v H2 (s1.trans s2) d2
  |error z=>
   rw[hg]at hF;cases z with
   |none=>exact hF.elim
   |some x=>
    refine⟨zz X O H1 x,zH (Ho.mono hF s1),O,ds,by rw[<-d1.length];exact hn ds (by rw[hg];intro z;cases z),E.all.same s1,d1,?_⟩;rw[hg];exact v8⟩
end
def Callee(P:Qi)(w:Qh)(K:OZ)(mg:Str->Option Qg)(base:Ql)(k:Nat)(x:Str)(ps:List Str)(g:List D->R D):Prop:=
 ∃f fd,mU P w K mg base (nF P w) k f fd ps (Bd K ps.length g)/\Binds K fd ps []/\Ph K (.ref f)=true/\mg x=some (.ref f)
def Ar(n:Nat)(g:List D->R D):Prop:=∀ds,g ds≠un->ds.length=n
theorem Hs{X:Cx}{k k':Nat}{ps:List Str}{g:List D->R D}{h:aw->R (List D)}{x:Str}{p pos:Pos}{e:Qv}{es:List Qv}
  (C:Callee X.prog X.w X.K X.mg X.base k x ps g) (hn:Ar ps.length g) (hr:iB k' X.A) (hk:k<=k') (ha:FA X (e::es) h) (hg:Gl X x:=by rfl)
  (hdb:(x==("__debug__":Str))=false:=by decide) (hns:(e::es).all noStar=true:=by rfl):
  FE X (.Call (.Name x p) (e::es) [] pos) (fR g h):=by
 obtain⟨f,fd,F,b,kp,m⟩:=C;exact PE.weak (CD F (hr.mono hk) hg m kp b ha hdb (e7 (MV _ _ ▸ hns).1) (iN (MV _ _ ▸ hns).2)) (Ae hn)
def K0:Ks:={nx:=λ_=>.ok .non}
def env0(n:Nat)(ds:List D):aw:=ds.map (λd=>some (.val d))++List.replicate (n-ds.length) none
def bi(B:cx)(np n:Nat):List D->R D:=λds=>if ds.length=np then B K0 (env0 n ds)else un
theorem aU{B:cx}{np n:Nat}:Ar np (bi B np n):=λds h=>by
 unfold bi at h;split at h
 ·assumption
 ·exact absurd rfl h
theorem iR{n:Nat}{ds:List D}(i:Nat)(x:S)(e:(env0 n ds)[i]?=some (some x)):∃d,ds[i]?=some d/\x=.val d:=by
 unfold env0 at e;by_cases hi:i<ds.length
 ·rw[MO (by rw[MS];exact hi),MP,Nq hi]at e;have e':some (S.val ds[i])=some x:=Option.some.inj e;exact⟨ds[i],by rw[Nq hi],(Option.some.inj e').symm⟩
 ·rw[MM (by rw[MS];omega),MS,MN]at e;split at e
  ·cases e
  ·cases e
theorem qK{K:OZ}{O:List Qj}{H:Hp}{N:List Str}{ds:List D}{vs:List V}(hO:dQ H O)(h:bh K (hid H O) ds vs):dU K O H (env0 N.length ds) (L2.start N vs):=by
 refine⟨λi d e=>?_,λi xs e=>?_,λi j xs ys a e=>?_,hO⟩
 ·obtain⟨d',e1,e2⟩:=iR i _ e;cases e2;obtain⟨v,e3,e4⟩:=h.get e1;refine⟨v,?_,e4⟩;unfold L2.start;have hi:i<vs.length:=(List.getElem?_eq_some_iff.mp e3).1;rw[MO (by rw[MS];exact hi),MP,e3];rfl
 ·obtain⟨d',_,e2⟩:=iR i _ e;cases e2
 ·obtain⟨d',_,e2⟩:=iR i _ e;cases e2
section
variable{P:Qi}{w:Qh}{K:OZ}{mg:Str->Option Qg}{base:Ql}
structure BodyOk(P:Qi)(w:Qh)(K:OZ)(mg:Str->Option Qg)(base:Ql)(k:Nat)(N:List Str)(qual:Str)(st:Qx)(f:Qj)(B:cx):Prop where
 h:∀(cdv:Qg)(A:Qr)(outer:List Env)(s:Qs)(H:Hp)(E:XK),iB k (A.deeper (PY qual (aA st) s.heap.objs.size f cdv))->QF (model P w) (A.deeper (PY qual (aA st) s.heap.objs.size f cdv)) (PY qual (aA st) s.heap.objs.size f cdv) (kz (nF P w) P w K mg base N qual (aA st) f cdv A outer s H E).xe->
  xB (kz (nF P w) P w K mg base N qual (aA st) f cdv A outer s H E) (fT st) B
theorem K8{x qual:Str}{st:Qx}{f:Qj}{fd:QR}{N ps:List Str}{k:Nat}{sp:Sp}{CX:Bc}(F:xC K x qual st f fd)(S:bq N ps (aA st))(len:∀vs H Q E,sp vs H Q E->vs.length=ps.length)
  (hbody:∀ (cdv:Qg) (A:Qr) (outer:List Env) (s:Qs) (H:Hp) (vs:List V) (Q:VK) (E:XK),iB k (A.deeper (PY qual (aA st) s.heap.objs.size f cdv))->sp vs H Q E ->
   ∃t,AD (kz CX P w K mg base N qual (aA st) f cdv A outer s H E) (fT st) t/\t {nx:=λ_ H'=>Q .non H',rt:=Q} (L2.start N vs) H):mU P w K mg base CX (k+1) f fd ps sp:=by
 obtain⟨oc,od,kV,doc,pm,an,cdv,ct,osl,rfl,lk,hcd⟩:=F.ex;exact Fo lk hcd S len λA outer s H vs Q E hr hsp=>hbody cdv A outer s H vs Q E hr hsp
theorem vg{x qual:Str}{st:Qx}{f:Qj}{fd:QR}{N ps:List Str}{k:Nat}{B:cx}(F:xC K x qual st f fd)(SC:bq N ps (aA st))(hb:BodyOk P w K mg base k N qual st f B):
  mU P w K mg base (nF P w) (k+1) f fd ps (Bd K ps.length (bi B ps.length N.length)):=by
 refine K8 F SC (λvs H Q E h=>?_) λcdv A outer s H vs Q E hr h=>?_
 ·obtain⟨O,ds,h1,_⟩:=h;exact h1
 ·obtain⟨O,ds,h1,h2,h3,h4⟩:=h;have hl:ds.length=ps.length:=h3.length.trans h1;have e4:bi B ps.length N.length ds=B K0 (env0 N.length ds):=by unfold bi;rw[if_pos hl]
  rw[e4]at h4;refine⟨_,hb.h cdv A outer s H E hr PassesOwn.leaving H O,O,env0 N.length ds,K0,_,⟨qK h2 h3,⟨bz.refl H,λ_ z=>z,λa z=>.inl z⟩,λi xs a e=>?_,λi d e=>by obtain⟨d',_,e2⟩:=iR i _ e;cases e2⟩,rfl,?_⟩
  ·obtain⟨d',_,e2⟩:=iR i _ e;cases e2
  ·generalize B K0 (env0 N.length ds)=r at h4;refine⟨λz=>by rw[z]at h4;exact h4,λO' ρ' σ' H' S e=>?_,λO' ρ' σ' H' S e=>?_,λO' ρ' σ' H' S e=>?_,λd O' v H' e b dv=>?_,λO' ρ' σ' H' x S e=>?_⟩
   ·have e:(.ok .non:R D)=r:=e;subst e;exact h4 .non H' S.base.same (j6.mpr rfl)
   ·have e:(un:R D)=r:=e;subst e;exact h4.elim
   ·have e:(un:R D)=r:=e;subst e;exact h4.elim
   ·subst e;exact h4 v H' b.same (dv.mono (iP b.sub))
   ·have e:(.error (some x):R D)=r:=e;subst e;exact Bw h4 S.base.same S.base.sub
theorem bA{x qual:Str}{st:Qx}{f:Qj}{fd:QR}{N ps:List Str}{k:Nat}{B:cx}(F:xC K x qual st f fd)(b:Binds K fd ps [])(m:mg x=some (.ref f))(SC:bq N ps (aA st))(hb:BodyOk P w K mg base k N qual st f B):
  Callee P w K mg base (k+1) x ps (bi B ps.length N.length):=⟨f,fd,vg F SC hb,b,F.kp,m⟩
theorem fE{x qual:Str}{st:Qx}{f:Qj}{fd:QR}{ps:List Str}(k:Nat)(F:xC K x qual st f fd)(b:Binds K fd ps [])(m:mg x=some (.ref f)):Callee P w K mg base k x ps (λ_=>un):=by
 have no:∀vs H Q E,¬Bd K ps.length (λ_=>un) vs H Q E:=λvs H Q E ⟨O,ds,_,_,_,e⟩=>e;exact⟨f,fd,⟨λvs H Q E h=>absurd h (no vs H Q E),λA outer s H args us vs Q E _ _ _ _ h=>absurd h (no vs H Q E)⟩,b,F.kp,m⟩
end
theorem qt{K:OZ}{T:String}(h1:Pn K (.type "NoneType") (.type T)=some (T=="NoneType"))(h2:Pn K (.type "bool") (.type T)=some (T=="bool"||T=="int"))(h3:Pn K (.type "int") (.type T)=some (T=="int"))(h4:Pn K (.type "str") (.type T)=some (T=="str"))
  (h5:Pn K (.type "tuple") (.type T)=some (T=="tuple")) (h6:Pn K (.type "list") (.type T)=some (T=="list")):wz K T:=λd hd=>by
 cases d with
 |dct _ _=>cases hd
 |obj _ _ _=>cases hd
 |exc _ _ _=>cases hd
 |non=>exact h1
 |bl _=>exact h2
 |int _=>exact h3
 |str _=>exact h4
 |tup _=>exact h5
 |lst _=>exact h6
theorem w6{K:OZ}:wz K "int":=qt rfl rfl rfl rfl rfl rfl
theorem mE{K:OZ}:wz K "bool":=qt rfl rfl rfl rfl rfl rfl
theorem wH{K:OZ}:wz K "str":=qt rfl rfl rfl rfl rfl rfl
theorem yA{K:OZ}:wz K "tuple":=qt rfl rfl rfl rfl rfl rfl
end TG
namespace TG
open PySem PySem.Spec L2
variable[bc]
section
variable{X:Cx}{a b c:Qv}{fa fb fc:FX}{pos:Pos}
theorem Ga{r:V->Hp->VK->Prop}{g:D->Option D}(s:Dr X.K r g):∀σ H Q,tF X (f1 g fa) σ H Q->LV r (tF X fa) σ H Q:=λσ H Q ⟨O,ρ,E,hF⟩=>⟨O,ρ,E,(iX.bind hF).imp λa hF x H1 s1 d1=>by
 obtain⟨d,e,q⟩:=iX.rO hF;exact s a d x O H1 Q (E.all.same s1) e d1 λv H2 s2 d2=>q v H2 (s1.trans s2) d2⟩
def FP(g g':D->D->Option D)(fa fb fc:FX):FX:=λρ=>(fa ρ).bind λx=>(fb ρ).bind λy=>(rO (g x y)).bind λz=>yc z ((fc ρ).bind λw=>rO (g' y w))
def GB:D->Option D
 |.int i=>some (.int (-i))
 |_=>none
def BX(f:FX):FX:=f1 GB f
theorem K1(ha:FE X a fa):FE X (.UnaryOp .USub a pos) (BX fa):=PE.weak (HX FC ha) (Ga λx d v O H Q _ e dv q=>by
 cases x with
 |int i=>cases e;exact⟨i,eZ.mp dv,q _ H (bz.refl H) (eZ.mpr rfl)⟩
 |_=>cases e)
def C6:D->Option D
 |.str x=>if small x.length then some (.str (Txt.upper x))else none
 |_=>none
def Fu(f:FX):FX:=f1 C6 f
def Hi:D->Option D
 |.lst xs=>some (.lst xs.reverse)
 |.tup xs=>some (.tup xs.reverse)
 |_=>none
def Ke(f:FX):FX:=f1 Hi f
end
end TG
namespace ZI
open PySem PySem.Spec PyProof.Rows
section
variable{prog:Qi}{w:Qh}{A:Qr}{E:Qg->Qs->Prop}{s:Qs}
theorem xQ{it t:Qj}{i:Nat}{its:Array Qg}{x:Qg}{Q:Qg->Qs->Prop}(hit:s.heap.IsTupleIter it t i)(ht:s.heap.IsTuple t its)(hx:its[i]?=some x)
  (hQ:∀g,g.IsTupleIter it t (i+1)->PH it s.heap g->Q x {s with heap:=g}):Qu (model prog w) A (Builtin.SmallTypes.nextOf (.ref it)) Q E s:=by
 obtain⟨ob,h1,h2,h3⟩:=id hit;obtain⟨ol,g1,_,n,g2⟩:=ht;unfold Builtin.SmallTypes.nextOf;refine QD (Q2 (name:=Str.ofString "__next__") hit.typeIs F.slot_tuple_iterator_next (Q3 F.slot_tuple_iterator_next hit.typeIs F.entry_tuple_iterator_next ?_ (F.args_tuple_iterator_next_1 _)));show Qu _ _ (field (.ref it) 0 >>= _) _ _ s;refine QD (Q0 h1 h3 (x:=.ref t) rfl ?_);show Qu _ _ (if(Value.ref t==Value.none)=true then _ else _) _ _ s;rw[if_neg (show¬((Value.ref t==Value.none)=true)from λz=>MG z)];show Qu _ _ (field (.ref it) 1 >>= _) _ _ s;refine QD (Q0 h1 h3 (x:=.int i 0) rfl ?_);show Qu _ _ (seqItems? (.ref t) >>= _) _ _ s;refine QD (Ri g1 g2 ?_);simp only[MT,hx];refine QD (Rj h1 h3 (by simp) (QC ⟨x,rfl,QC (hQ _ ⟨_,PN _ h1 (Obj.isFreed_of_fields (Obj.data_mapFields h3 _)),(Obj.cls_mapFields ..).trans h2,by rw[Obj.data_mapFields h3];simp[rawInt]⟩ (Heap.SameBut.update ..))⟩))
theorem Ac{it t:Qj}{i:Nat}{its:Array Qg}{Q:Qg->Qs->Prop}(hh:A.handled=none)(hit:s.heap.IsTupleIter it t i)(ht:s.heap.IsTuple t its)(hx:its[i]?=none)
  (hE:∀g e,Heap.ExtBut it s.heap g->(∃o,g.get? e=some o/\o.cls=.type "StopIteration")->E (.ref e) {s with heap:=g}):Qu (model prog w) A (Builtin.SmallTypes.nextOf (.ref it)) Q E s:=by
 obtain⟨ob,h1,h2,h3⟩:=id hit;obtain⟨ol,g1,_,n,g2⟩:=ht;unfold Builtin.SmallTypes.nextOf;refine QD (Q2 (name:=Str.ofString "__next__") hit.typeIs F.slot_tuple_iterator_next (Q3 F.slot_tuple_iterator_next hit.typeIs F.entry_tuple_iterator_next ?_ (F.args_tuple_iterator_next_1 _)));show Qu _ _ (field (.ref it) 0 >>= _) _ _ s;refine QD (Q0 h1 h3 (x:=.ref t) rfl ?_);show Qu _ _ (if(Value.ref t==Value.none)=true then _ else _) _ _ s;rw[if_neg (show¬((Value.ref t==Value.none)=true)from λz=>MG z)];show Qu _ _ (field (.ref it) 1 >>= _) _ _ s;refine QD (Q0 h1 h3 (x:=.int i 0) rfl ?_);show Qu _ _ (seqItems? (.ref t) >>= _) _ _ s;refine QD (Ri g1 g2 ?_);simp only[MT,hx];refine QD (Rf (QD (Rj h1 h3 (by simp) ?_)));show Qu _ _ (newExc (.type "StopIteration") [] >>= _) _ _ _;refine QD ?_;simp only[newExc,newTuple];refine QD (Q5 ?_ (by size_fits));refine QD (m:=firstArgMember _ _) (wpAny_of_eq (a:=Value.none) (by first|rfl|(simp only[firstArgMember];rfl)) ?_);refine Q5 ?_ (by size_fits);simp only[raiseNew];refine QD (wpAny_handled ?_)
 first|rw[show A.in1.handled=none from hh]|rw[hh]
 refine QD (QC (wpAny_throw ?_));exact hE _ _ (((Heap.SameBut.update ..).extBut.push _).push _) ⟨_,PK _ rfl,rfl⟩
end
theorem GU{prog:Qi}{w:Qh}{A:Qr}(hh:A.handled=none)(it t:Qj)(hne:t≠it)(its:Array Qg):Draws prog w A it [it,t] its.size (λi v=>its[i]?=some v) (λi h=>h.IsTupleIter it t i/\h.IsTuple t its)where
 live:=λi h ⟨⟨o,e,_⟩,_⟩=>⟨o,e⟩
 frame:=λi h h' ⟨x,y⟩ k=>⟨x.at λo e=>k it (by simp) o e,let ⟨o,e,r⟩:=y;⟨o,k t (by simp) o e,r⟩⟩
 item:=λi s Q E hi ⟨x,y⟩ hQ=>xQ x y (Array.getElem?_eq_getElem hi) λg hg hs=>hQ _ g s.toks (Array.getElem?_eq_getElem hi) ⟨hg,let ⟨o,e,r⟩:=y;⟨o,(hs.2 t hne).trans e,r⟩⟩ hs
 done:=λs Q E ⟨x,y⟩ hE=>Ac hh x y (by simp) hE
structure Apart(z TI TO i1 i2:Qj)(fp1 fp2:List Qj):Prop where
 a1:TI≠z
 a2:TO≠z
 a3:TI≠TO
 b1:z∉fp1
 b2:TO∉fp1
 b3:i2∉fp1
 c1:z∉fp2
 c2:TO∉fp2
 c3:i1∉fp2
 d1:TI≠i1
 d2:TI≠i2
 e1:i1∈fp1
 e2:i2∈fp2
section
variable{prog:Qi}{w:Qh}{A:Qr}{E:Qg->Qs->Prop}{s:Qs}{z TI TO i1 i2:Qj}{fp1 fp2:List Qj}{n1 n2 i:Nat}{P1 P2:Nat->Qg->Prop}{S1 S2:Nat->Ql->Prop}{a b:Qg}
theorem next_item{Q:Qg->Qs->Prop}(Ap:Apart z TI TO i1 i2 fp1 fp2)(D1:Draws prog w A i1 fp1 n1 P1 S1)(D2:Draws prog w A i2 fp2 n2 P2 S2)(hz:Rl s.heap z TI TO .none)(hTI:Rm s.heap TI (.ref i1) (.ref i2))(hTO:Rm s.heap TO a b)(st1:S1 i s.heap)(st2:S2 i s.heap)(l1:i<n1)(l2:i<n2)
  (hQ:∀ x y g tk,P1 i x->P2 i y->Rl g z TI TO (rawInt s.heap.objs.size)->Rm g TO x y->S1 (i+1) g->S2 (i+1) g->Rm g s.heap.objs.size x y->g.objs.size=s.heap.objs.size+1 ->
   (∀c o,c≠z->c≠TO->c≠i1->c≠i2->s.heap.get? c=some o->g.get? c=some o)->Q (.ref s.heap.objs.size) {s with heap:=g,toks:=tk}):
  Qu (model prog w) A (Builtin.«zip.__next__» ⟨[.ref z],[]⟩) (λfin s'=>∃v,fin=.done (.ret v)/\Q v s') E s:=by
 have n1z:i1≠z:=λe=>Ap.b1 (e ▸ Ap.e1);have n2z:i2≠z:=λe=>Ap.c1 (e ▸ Ap.e2);have n1T:i1≠TO:=λe=>Ap.b2 (e ▸ Ap.e1);have n2T:i2≠TO:=λe=>Ap.c2 (e ▸ Ap.e2);show Qu _ _ (field (.ref z) 2 >>= _) _ _ _;refine QD (Q0 hz rfl (x:=.bool false) rfl ?_);show Qu _ _ (field (.ref z) 3 >>= _) _ _ _;refine QD (Q0 hz rfl (x:=.ref TI) rfl ?_);refine QD (Ri hTI rfl ?_);show Qu _ _ (Builtin.SmallTypes.ownedTupleIsFree (.ref z) >>= _) _ _ _;refine QD ?_;unfold Builtin.SmallTypes.ownedTupleIsFree;refine QD (Q0 hz rfl (x:=.none) rfl (QC ?_));simp only[if_true];refine QD (Rf ?_);refine QD (Q0 hz rfl (x:=.ref TO) rfl ?_);refine QD (Rn hz (by simp) λg1 hz1 k1=>?_);have hz1:Rl g1 z TI TO .ellipsis:=hz1;refine QD ?_;simp only[NN,List.zipIdx_nil,Nf,List.forIn_nil];refine QD (QD (Ro ?_));show Qu _ _ (Builtin.SmallTypes.nextOf (.ref i1) >>= _) _ _ _;have q1:S1 i g1:=D1.frame _ _ _ st1 λb hb o e=>k1.extBut _ _ (λz'=>Ap.b1 (z' ▸ hb)) e;refine QD (D1.item i {s with heap:=g1} _ _ l1 q1 λx g2 tk2 p1 q2 k2=>QC ?_);have t2:Rm g2 TO a b:=k2.extBut _ _ n1T.symm (k1.extBut _ _ Ap.a2 hTO);refine QD (Ri t2 rfl ?_);refine QD (Rp t2 λg3 t3 k3=>?_);have t3:Rm g3 TO x b:=t3;refine QD (Rq (QC ?_));refine QD (QD (Ro ?_));show Qu _ _ (Builtin.SmallTypes.nextOf (.ref i2) >>= _) _ _ _;have q3:S2 i g3:=D2.frame _ _ _ st2 λb hb o e=>k3.extBut _ _ (λz'=>Ap.c2 (z' ▸ hb)) (k2.extBut _ _ (λz'=>Ap.c3 (z' ▸ hb)) (k1.extBut _ _ (λz'=>Ap.c1 (z' ▸ hb)) e));refine QD (D2.item i {s with heap:=g3,toks:=tk2} _ _ l2 q3 λy g4 tk4 p2 q4 k4=>QC ?_);have t4:Rm g4 TO x b:=k4.extBut _ _ n2T.symm t3;refine QD (Ri t4 rfl ?_);refine QD (Rp t4 λg5 t5 k5=>?_);have t5:Rm g5 TO x y:=t5;refine QD (Rq (QC (QC ?_)));refine QD (Ri t5 rfl ?_);refine QD (Rr ?_);have hsz:g5.objs.size=s.heap.objs.size:=by rw[k5.1,k4.1,k3.1,k2.1,k1.1]
 have hz5:Rl g5 z TI TO .ellipsis:=k5.extBut _ _ Ap.a2.symm (k4.extBut _ _ n2z.symm (k3.extBut _ _ Ap.a2.symm (k2.extBut _ _ n1z.symm hz1)));have k15:∀c o,c≠z->c≠TO->c≠i1->c≠i2->s.heap.get? c=some o->g5.get? c=some o:=λc o c1 c2 c3 c4 e=>k5.extBut _ _ c2 (k4.extBut _ _ c4 (k3.extBut _ _ c2 (k2.extBut _ _ c3 (k1.extBut _ _ c1 e))));have r1:S1 (i+1) g5:=D1.frame _ _ _ q2 λb hb o e=>k5.extBut _ _ (λz'=>Ap.b2 (z' ▸ hb)) (k4.extBut _ _ (λz'=>Ap.b3 (z' ▸ hb)) (k3.extBut _ _ (λz'=>Ap.b2 (z' ▸ hb)) e));have r2:S2 (i+1) g5:=D2.frame _ _ _ q4 λb hb o e=>k5.extBut _ _ (λz'=>Ap.c2 (z' ▸ hb)) e;have lz:z<g5.objs.size:=PD hz5;show Qu _ _ (Builtin.SmallTypes.ownedTupleHandOut (.ref z) (.ref g5.objs.size) >>= _) _ _ _;refine QD ?_;unfold Builtin.SmallTypes.ownedTupleHandOut;have hz6:Rl (g5.push {cls:=.type "tuple",data:=.seq #[x,y]}) z TI TO .ellipsis:=PJ _ hz5;refine QD (Rn hz6 (by simp) λg7 hz7 k7=>?_);have hz7:Rl g7 z TI TO (rawInt g5.objs.size):=hz7;refine Rn hz7 (by simp) λg8 hz8 k8=>?_;have hz8:Rl g8 z TI TO (rawInt g5.objs.size):=hz8;have up:∀c o,c≠z->g5.get? c=some o->g8.get? c=some o:=λc o c1 e=>k8.extBut _ _ c1 (k7.extBut _ _ c1 (PJ _ e));have t8:Rm g8 g5.objs.size x y:=k8.extBut _ _ (MA lz) (k7.extBut _ _ (MA lz) (PK _ rfl));have s8:g8.objs.size=g5.objs.size+1:=by rw[k8.1,k7.1,PL]
 rw[hsz]at hz8 t8 s8;refine QC ⟨_,rfl,?_⟩;show Q (.ref g5.objs.size) _;rw[hsz];exact hQ x y g8 tk4 p1 p2 hz8 (up _ _ Ap.a2 t5) (D1.frame _ _ _ r1 λb hb o e=>up b o (λz'=>Ap.b1 (z' ▸ hb)) e) (D2.frame _ _ _ r2 λb hb o e=>up b o (λz'=>Ap.c1 (z' ▸ hb)) e) t8 s8 λc o c1 c2 c3 c4 e=>up c o c1 (k15 c o c1 c2 c3 c4 e)
theorem next_end{Q:Fin->Qs->Prop}(Ap:Apart z TI TO i1 i2 fp1 fp2)(D1:Draws prog w A i1 fp1 n1 P1 S1)(D2:Draws prog w A i2 fp2 n2 P2 S2)(hz:Rl s.heap z TI TO .none)(hTI:Rm s.heap TI (.ref i1) (.ref i2))(hTO:Rm s.heap TO a b)(st1:S1 i s.heap)(st2:S2 i s.heap)(hend:i=n1\/(i<n1/\i=n2))
  (hE:∀g e tk,(∀c o,c≠z->c≠TO->c≠i1->c≠i2->s.heap.get? c=some o->g.get? c=some o)->(∃o,g.get? e=some o/\o.cls=.type "StopIteration")->E (.ref e) {s with heap:=g,toks:=tk}):
  Qu (model prog w) A (Builtin.«zip.__next__» ⟨[.ref z],[]⟩) Q E s:=by
 have n1z:i1≠z:=λe=>Ap.b1 (e ▸ Ap.e1);have n2z:i2≠z:=λe=>Ap.c1 (e ▸ Ap.e2);have n1T:i1≠TO:=λe=>Ap.b2 (e ▸ Ap.e1);show Qu _ _ (field (.ref z) 2 >>= _) _ _ _;refine QD (Q0 hz rfl (x:=.bool false) rfl ?_);show Qu _ _ (field (.ref z) 3 >>= _) _ _ _;refine QD (Q0 hz rfl (x:=.ref TI) rfl ?_);refine QD (Ri hTI rfl ?_);show Qu _ _ (Builtin.SmallTypes.ownedTupleIsFree (.ref z) >>= _) _ _ _;refine QD ?_;unfold Builtin.SmallTypes.ownedTupleIsFree;refine QD (Q0 hz rfl (x:=.none) rfl (QC ?_));simp only[if_true];refine QD (Rf ?_);refine QD (Q0 hz rfl (x:=.ref TO) rfl ?_);refine QD (Rn hz (by simp) λg1 hz1 k1=>?_);have hz1:Rl g1 z TI TO .ellipsis:=hz1;refine QD ?_;simp only[NN,List.zipIdx_nil,Nf,List.forIn_nil];refine QD (QD (Ro ?_));show Qu _ _ (Builtin.SmallTypes.nextOf (.ref i1) >>= _) _ _ _;have q1:S1 i g1:=D1.frame _ _ _ st1 λb hb o e=>k1.extBut _ _ (λz'=>Ap.b1 (z' ▸ hb)) e;rcases hend with hend|⟨l1,hend⟩
 ·subst hend;refine QD (D1.done {s with heap:=g1} _ _ q1 λg2 e k2 he=>?_);obtain⟨oe,hoe,hce⟩:=he;have hz2:Rl g2 z TI TO .ellipsis:=k2 _ _ n1z.symm hz1;have hez:e≠z:=λx=>by rw[x,hz2]at hoe;cases hoe;simp at hce
  exact Rn hz2 (by simp) λg3 _ k3=>hE g3 e s.toks (λc o c1 _ c3 _ x=>k3.extBut _ _ c1 (k2 _ _ c3 (k1.extBut _ _ c1 x))) ⟨oe,k3.extBut _ _ hez hoe,hce⟩
 ·refine QD (D1.item i {s with heap:=g1} _ _ l1 q1 λx g2 tk2 p1 q2 k2=>QC ?_);have t2:Rm g2 TO a b:=k2.extBut _ _ n1T.symm (k1.extBut _ _ Ap.a2 hTO);refine QD (Ri t2 rfl ?_);refine QD (Rp t2 λg3 t3 k3=>?_);refine QD (Rq (QC ?_));refine QD (QD (Ro ?_));show Qu _ _ (Builtin.SmallTypes.nextOf (.ref i2) >>= _) _ _ _;have q3:S2 i g3:=D2.frame _ _ _ st2 λb hb o e=>k3.extBut _ _ (λz'=>Ap.c2 (z' ▸ hb)) (k2.extBut _ _ (λz'=>Ap.c3 (z' ▸ hb)) (k1.extBut _ _ (λz'=>Ap.c1 (z' ▸ hb)) e));subst hend;refine QD (D2.done {s with heap:=g3,toks:=tk2} _ _ q3 λg4 e k4 he=>?_);obtain⟨oe,hoe,hce⟩:=he;have hz4:Rl g4 z TI TO .ellipsis:=k4 _ _ n2z.symm (k3.extBut _ _ Ap.a2.symm (k2.extBut _ _ n1z.symm hz1));have hez:e≠z:=λx=>by rw[x,hz4]at hoe;cases hoe;simp at hce
  exact Rn hz4 (by simp) λg5 _ k5=>hE g5 e tk2 (λc o c1 c2 c3 c4 x=>k5.extBut _ _ c1 (k4 _ _ c4 (k3.extBut _ _ c2 (k2.extBut _ _ c3 (k1.extBut _ _ c1 x))))) ⟨oe,k5.extBut _ _ hez hoe,hce⟩
end
def SQ(b:Bool)(h:Ql)(l:Qj)(xs:Array Qg):Prop:=if b then h.IsList l xs else h.IsTuple l xs
def SI(b:Bool)(h:Ql)(i l:Qj)(k:Nat):Prop:=if b then h.IsListIter i l k else h.IsTupleIter i l k
def Jg(b:Bool):String:=if b then"list_iterator"else"tuple_iterator"
theorem SQ.keep{b:Bool}{h h':Ql}{l:Qj}{xs:Array Qg}(x:SQ b h l xs)(k:∀o,h.get? l=some o->h'.get? l=some o):SQ b h' l xs:=by
 cases b with
 |true=>exact Heap.IsList.at x k
 |false=>obtain⟨o,e,r⟩:=(show h.IsTuple l xs from x);exact(show h'.IsTuple l xs from⟨o,k o e,r⟩)
theorem SI.keep{b:Bool}{h h':Ql}{i l:Qj}{n:Nat}(x:SI b h i l n)(k:∀o,h.get? i=some o->h'.get? i=some o):SI b h' i l n:=by
 cases b with
 |true=>exact Heap.IsListIter.at x k
 |false=>exact Heap.IsTupleIter.at x k
theorem SQ.lt{b:Bool}{h:Ql}{l:Qj}{xs:Array Qg}(x:SQ b h l xs):l<h.objs.size:=by
 cases b with
 |true=>obtain⟨o,e,_⟩:=(show h.IsList l xs from x);exact PD e
 |false=>obtain⟨o,e,_⟩:=(show h.IsTuple l xs from x);exact PD e
theorem SI.get{b:Bool}{h:Ql}{i l:Qj}{n:Nat}(x:SI b h i l n):∃o,h.get? i=some o/\∀v,o.data≠.cell v:=by
 cases b with
 |true=>obtain⟨o,e,_,d⟩:=(show h.IsListIter i l n from x);exact⟨o,e,λv z=>by rw[d]at z;cases z⟩
 |false=>obtain⟨o,e,_,d⟩:=(show h.IsTupleIter i l n from x);exact⟨o,e,λv z=>by rw[d]at z;cases z⟩
theorem SI.new{b:Bool}{h:Ql}{l:Qj}:SI b (h.push {cls:=.type (Jg b),data:=.fields #[.ref l,.int 0 0]}) h.objs.size l 0:=by
 cases b with
 |true=>exact⟨_,PK _ rfl,rfl,rfl⟩
 |false=>exact⟨_,PK _ rfl,rfl,rfl⟩
theorem qA{b:Bool}{prog:Qi}{w:Qh}{A:Qr}{E:Qg->Qs->Prop}{s:Qs}{l:Qj}{xs:Array Qg}{Q:Qg->Qs->Prop}(h:SQ b s.heap l xs)
  (hQ:Q (.ref s.heap.objs.size) {s with heap:=s.heap.push {cls:=.type (Jg b),data:=.fields #[.ref l,.int 0 0]}}):Qu (model prog w) A (pyIter (.ref l)) Q E s:=by
 cases b with
 |true=>exact QE h hQ
 |false=>exact wpAny_pyIter_tuple h hQ
theorem lR{prog:Qi}{w:Qh}{A:Qr}(b:Bool)(hh:A.handled=none)(it l:Qj)(hne:l≠it)(its:Array Qg):Draws prog w A it [it,l] its.size (λi v=>its[i]?=some v) (λi h=>SI b h it l i/\SQ b h l its):=by
 cases b with
 |true=>exact Draws.list hh it l hne its
 |false=>exact GU hh it l hne its
abbrev Bf(b1:Bool)(h:Ql)(l1:Qj):Ql:=h.push {cls:=.type (Jg b1),data:=.fields #[.ref l1,.int 0 0]}
abbrev HS(b1 b2:Bool)(h:Ql)(l1 l2:Qj):Ql:=(Bf b1 h l1).push {cls:=.type (Jg b2),data:=.fields #[.ref l2,.int 0 0]}
abbrev JM(b1 b2:Bool)(h:Ql)(l1 l2:Qj):Ql:=(HS b1 b2 h l1 l2).push {cls:=.type "tuple",data:=.seq #[.ref h.objs.size,.ref (Bf b1 h l1).objs.size]}
abbrev Ju(b1 b2:Bool)(h:Ql)(l1 l2:Qj):Ql:=(JM b1 b2 h l1 l2).push {cls:=.type "tuple",data:=.seq #[.none,.none]}
abbrev E7(b1 b2:Bool)(h:Ql)(l1 l2:Qj):Ql:=(Ju b1 b2 h l1 l2).push {cls:=.type "zip",data:=.fields #[.none,.bool false,.bool false,.ref (HS b1 b2 h l1 l2).objs.size,.ref (JM b1 b2 h l1 l2).objs.size]}
theorem Bg(b1 b2:Bool)(l1 l2:Qj)(xs ys:Array Qg):Meets (Builtin.«zip.__new__» ⟨[.type "zip",.ref l1,.ref l2],[]⟩) (λ_ R s=>SQ b1 s.heap l1 xs/\SQ b2 s.heap l2 ys/\R (.ok (.ret (.ref (Ju b1 b2 s.heap l1 l2).objs.size))) {s with heap:=E7 b1 b2 s.heap l1 l2}):=
 .of_wp λprog w A R s h=>by
  obtain⟨hp,g,d,tk,os⟩:=s;obtain⟨q1,q2,h⟩:=h;have hsub:=sub_zip;have e1:SQ b1 (Shared.heap ⟨hp,g,d,tk,os⟩) l1 xs:=q1;have e2:SQ b2 (Shared.heap ⟨Bf b1 hp l1,g,d,tk,os⟩) l2 ys:=q2.keep λo e=>PJ _ e
  wp_walk using qA e1,qA e2
  exact⟨_,rfl,h⟩
theorem CV{prog:Qi}{w:Qh}{A:Qr}{E:Qg->Qs->Prop}{s:Qs}{b1 b2:Bool}{l1 l2:Qj}{xs ys:Array Qg}{Q:Qg->Qs->Prop}(h1:SQ b1 s.heap l1 xs)(h2:SQ b2 s.heap l2 ys)
  (h:∀ g,Rl g (s.heap.objs.size+4) (s.heap.objs.size+2) (s.heap.objs.size+3) .none->Rm g (s.heap.objs.size+2) (.ref s.heap.objs.size) (.ref (s.heap.objs.size+1))->Rm g (s.heap.objs.size+3) .none .none->SI b1 g s.heap.objs.size l1 0->SI b2 g (s.heap.objs.size+1) l2 0 ->
   (∀c o,s.heap.get? c=some o->g.get? c=some o)->Q (.ref (s.heap.objs.size+4)) {s with heap:=g}):Qu (model prog w) A (call (.type "zip") [.ref l1,.ref l2]) Q E s:=by
 refine callType_new F.called_zip (by decide) (F.typeCall_zip_2 _ _) (F.newCall_zip_2 _ _) (λobj=>F.args_object_init_3 obj _ _) F.entry_zip_new (Bg b1 b2 l1 l2 xs ys) ⟨h1,h2,?_⟩;have z1:(Bf b1 s.heap l1).objs.size=s.heap.objs.size+1:=PL ..
 have z2:(HS b1 b2 s.heap l1 l2).objs.size=s.heap.objs.size+2:=by rw[PL,z1]
 have z3:(JM b1 b2 s.heap l1 l2).objs.size=s.heap.objs.size+3:=by rw[PL,z2]
 have z4:(Ju b1 b2 s.heap l1 l2).objs.size=s.heap.objs.size+4:=by rw[PL,z3]
 have u1:∀c o,(Bf b1 s.heap l1).get? c=some o->(E7 b1 b2 s.heap l1 l2).get? c=some o:=λc o e=>PJ _ (PJ _ (PJ _ (PJ _ e)));have u2:∀c o,(HS b1 b2 s.heap l1 l2).get? c=some o->(E7 b1 b2 s.heap l1 l2).get? c=some o:=λc o e=>PJ _ (PJ _ (PJ _ e));have g5:(E7 b1 b2 s.heap l1 l2).get? (Ju b1 b2 s.heap l1 l2).objs.size=some _:=PK _ rfl;have g4:(E7 b1 b2 s.heap l1 l2).get? (JM b1 b2 s.heap l1 l2).objs.size=some _:=PJ _ (PK _ rfl);have g3:(E7 b1 b2 s.heap l1 l2).get? (HS b1 b2 s.heap l1 l2).objs.size=some _:=PJ _ (PJ _ (PK _ rfl));have g2:SI b2 (E7 b1 b2 s.heap l1 l2) (Bf b1 s.heap l1).objs.size l2 0:=SI.keep (SI.new (h:=Bf b1 s.heap l1)) λo e=>u2 _ o e;have g1:SI b1 (E7 b1 b2 s.heap l1 l2) s.heap.objs.size l1 0:=SI.keep SI.new λo e=>u1 _ o e;show _/\_;rw[z2,z3,z4]at g5;rw[z1,z2]at g3;rw[z3]at g4;rw[z1]at g2;rw[z4];exact⟨⟨_,g5,rfl⟩,h _ g5 g3 g4 g1 g2 λc o e=>u1 c o (PJ _ e)⟩
theorem Ax(b : Bool)(l : Qj)(xs : Array Qg): Meets (Builtin.«enumerate.__new__» ⟨[.type "enumerate", .ref l], []⟩) (fun _ R s => SQ b s.heap l xs /\
      R (.ok (.ret (.ref (Bf b s.heap l).objs.size))) {s with heap:=(Bf b s.heap l).push {cls:=.type "enumerate",data:=.fields #[.none,.bool false,.ref s.heap.objs.size,rawInt 0,.none,.none]}}):=
  .of_wp λprog w A R s h=>by
    obtain⟨hp,g,d,tk,os⟩:=s;obtain⟨q1,h⟩:=h;have hsub:=sub_enumerate;have e1:SQ b (Shared.heap ⟨hp,g,d,tk,os⟩) l xs:=q1
    wp_walk using qA e1
    refine wpAny_stack_any λst=>QC ?_;split
    · rename_i c _ _ _ _ _
      cases(c==Value.type "enumerate")<;>(wp_walk using qA e1;exact⟨_,rfl,h⟩)
    · wp_walk using qA e1
      exact⟨_,rfl,h⟩
end ZI
namespace TG
open PySem PySem.Spec L2 ZI
variable[bc]
section
variable{X:Cx}{pins:List (Qj×Obj)}{σ:St}{H:Hp}{s:Qs}{h':Ql}
theorem Inv.turnedL{ch:List Qj}{p:Qj}{o:HO}{t':Nat}(I:Inv X pins σ H s)(hf:∀b∈ch,sr X pins H b)(k:∀b u,b∉ch->s.heap.get? b=some u->h'.get? b=some u)(hp:s.heap.objs.size<=p)(new:cJ X.prog X.w (upd H p o) h' p o):
  Inv X pins σ (upd H p o) {s with heap:=h',toks:=t'}:=by
 have hn:=I.hok.fresh hp;have nch:∀b u,H b=some u->b∉ch:=λb u e z=>by rw[(hf b z).1]at e;cases e
 refine I.step (g':=s.gens) (d':=s.drawn) (ch:=ch) (λb hb=>?_) (λb o _ _ hc e _=>k b o hc e) (λb o _ _ hc e _=>⟨o.slots,k b o hc e⟩) (λb u _ q n=>by rw[aM (Mq (Mo (PD q) hp))];exact n)
  (λb o hc e=>⟨o,k b o hc e⟩) (λb xs q=>by rw[aM (bd q hn)];exact q) (λb u xs q=>by rw[aM (bd q hn)];exact q) (λb ps q=>⟨#[],by rw[aM (bd q hn),q];simp⟩) (λm hm=>?_) (λb u e=>?_) I.bare
 ·obtain⟨_,f1,_,f3,f4,f5⟩:=hf b hb;exact⟨f3,f1,f4,f5⟩
 ·obtain⟨o,es,ep,ho,r⟩:=hm;exact⟨o,es,ep,k _ o (λz=>(hf _ z).2.1 rfl) ho,r⟩
 ·by_cases hb:b=p
  ·subst hb;rw[aZ]at e;cases e;exact new
  ·rw[aM hb]at e;refine(I.hok b u e).stay (λc v hc q=>k c v ?_ q) (λc q=>by rw[aM (bd q hn)];exact q) λc xs q=>by rw[aM (bd q hn)];exact q
   rcases hc with z|z
   ·rw[z];exact nch b u e
   ·exact nch c _ z
theorem Inv.turned0{ch:List Qj}{t':Nat}(I:Inv X pins σ H s)(hf:∀b∈ch,sr X pins H b)(k:∀b u,b∉ch->s.heap.get? b=some u->h'.get? b=some u):Inv X pins σ H {s with heap:=h',toks:=t'}:=by
 have nch:∀b u,H b=some u->b∉ch:=λb u e z=>by rw[(hf b z).1]at e;cases e
 refine I.step (g':=s.gens) (d':=s.drawn) (ch:=ch) (λb hb=>?_) (λb o _ _ hc e _=>k b o hc e) (λb o _ _ hc e _=>⟨o.slots,k b o hc e⟩) (λ_ _ _ _ n=>n)
  (λb o hc e=>⟨o,k b o hc e⟩) (λ_ _ e=>e) (λ_ _ _ e=>e) (λb ps e=>⟨#[],by rw[e];simp⟩) (λm hm=>?_) (λb u e=>?_) I.bare
 ·obtain⟨_,f1,_,f3,f4,f5⟩:=hf b hb;exact⟨f3,f1,f4,f5⟩
 ·obtain⟨o,es,ep,ho,r⟩:=hm;exact⟨o,es,ep,k _ o (λz=>(hf _ z).2.1 rfl) ho,r⟩
 ·refine(I.hok b u e).stay (λc v hc q=>k c v ?_ q) (λ_ q=>q) λ_ _ q=>q;rcases hc with z|z
  ·rw[z];exact nch b u e
  ·exact nch c _ z
end
def SX(K:OZ)(b:Bool)(H:Hp)(a:Qj)(xs:List V):Prop:=if b then nG K H a xs else oF K H a xs
theorem SX.same{K:OZ}{b:Bool}{H H':Hp}{a:Qj}{xs:List V}(e:bz H H')(h:SX K b H a xs):SX K b H' a xs:=by
 cases b with
 |true=>exact e.seq (show nG K H a xs from h)
 |false=>exact A6 e (show oF K H a xs from h)
section
variable{X:Cx}{pins:List (Qj×Obj)}{σ:St}{H:Hp}{s:Qs}
theorem Inv.sx(I:Inv X pins σ H s){b:Bool}{a:Qj}{xs:List V}(h:SX X.K b H a xs):∃its:List Qg,Vals xs its/\SQ b s.heap a its.toArray/\xs.length<=Qm:=by
 cases b with
 |true=>obtain⟨its,r,p,z⟩:=I.list (show nG X.K H a xs from h);exact⟨its,r,p.isList,z⟩
 |false=>obtain⟨its,r,p,z⟩:=I.tuple (show oF X.K H a xs from h);exact⟨its,r,p,z⟩
theorem Inv.sx_inj(I:Inv X pins σ H s){b:Bool}{a:Qj}{xs ys:List V}(h:SX X.K b H a xs)(h':SX X.K b H a ys):xs=ys:=by
 cases b with
 |true=>exact I.list_inj h h'
 |false=>exact I.tuple_inj h h'
end
def LW(K:OZ)(b1 b2:Bool)(a1 a2:Qj):It:=
  ⟨fun i H=>∃ xs ys,SX K b1 H a1 xs/\SX K b2 H a2 ys/\i < xs.length/\i < ys.length,
   λi H v H'=>∃p x y,v=.ref p/\H p=none/\H'=upd H p (.tup [x,y])/\(∀xs,SX K b1 H a1 xs->xs[i]?=some x)/\∀ys,SX K b2 H a2 ys->ys[i]?=some y,
   λi H=>∃xs ys,SX K b1 H a1 xs/\SX K b2 H a2 ys/\(i=xs.length\/(i<xs.length/\i=ys.length))⟩
theorem Bn{P:Qi}{w:Qh}{K:OZ}{es:List Qv}{k:Nat}{pos:Pos}{b1 b2:Bool}{a1 a2 z TI TO i1 i2:Qj}(Ap:Apart z TI TO i1 i2 [i1,a1] [i2,a2])(n1:a1≠i1)(n2:a2≠i2)(n3:z≠i1)(n4:z≠i2):Turn P w K (.Tuple es k pos) (LW K b1 b2 a1 a2) [z,TI,TO,i1,i2] z
  (λi h=>Rl h z TI TO .none/\Rm h TI (.ref i1) (.ref i2)/\(∃a b,Rm h TO a b)/\SI b1 h i1 a1 i/\SI b2 h i2 a2 i)where
 mem:=by simp
 obj:=λi h ⟨hz,hI,⟨a,b,hO⟩,s1,s2⟩ c hc=>by
  simp only[NP,NQ,or_false]at hc;rcases hc with rfl|rfl|rfl|rfl|rfl
  ·exact⟨_,hz,λv q=>by cases q⟩
  ·exact⟨_,hI,λv q=>by cases q⟩
  ·exact⟨_,hO,λv q=>by cases q⟩
  ·exact s1.get
  ·exact s2.get
 keep:=λi h h' ⟨hz,hI,⟨a,b,hO⟩,s1,s2⟩ kp=>⟨kp z (by simp) _ hz,kp TI (by simp) _ hI,⟨a,b,kp TO (by simp) _ hO⟩,s1.keep λo e=>kp i1 (by simp) o e,s2.keep λo e=>kp i2 (by simp) o e⟩
 item:=by
  intro X hP hw hK hc i pins s σ H E I hf ⟨hz,hI,⟨a,b,hO⟩,s1,s2⟩ hg;subst hP hw hK;obtain⟨xs,ys,g1,g2,l1,l2⟩:=hg;obtain⟨its1,r1,q1,z1⟩:=Inv.sx I g1;obtain⟨its2,r2,q2,z2⟩:=Inv.sx I g2;have hh:X.A.in1.handled=none:=I.ok.hd hc;have hT:s.TypeIs (.ref z) "zip":=⟨_,hz,rfl⟩
  unfold pyNext;refine QD (Rt (Q2 (name:=Str.ofString "__next__") hT F.slot_zip_next (Q3 F.slot_zip_next hT F.entry_zip_next
   (next_item Ap (lR (A:=X.A.in1) b1 hh i1 a1 n1 its1.toArray) (lR (A:=X.A.in1) b2 hh i2 a2 n2 its2.toArray) hz hI hO ⟨s1,q1⟩ ⟨s2,q2⟩ (by rw[MF,<-r1.length];exact l1) (by rw[MF,<-r2.length];exact l2) λu v g tk p1 p2 hz' hO' t1 t2 hp sz kp=>?_) (F.args_zip_next_1 _))))
  have e1:its1[i]?=some u:=by simpa using p1
  have e2:its2[i]?=some v:=by simpa using p2
  have hx:∃x,xs[i]?=some x/\RelV x u:=by
   obtain⟨u',hu,ru⟩:=r1.get (i:=i) (x:=xs[i]) (by simp[l1]);rw[e1]at hu;cases hu;exact⟨xs[i],by simp[l1],ru⟩
  have hy:∃y,ys[i]?=some y/\RelV y v:=by
   obtain⟨u',hu,ru⟩:=r2.get (i:=i) (x:=ys[i]) (by simp[l2]);rw[e2]at hu;cases hu;exact⟨ys[i],by simp[l2],ru⟩
  obtain⟨x,ex,rx⟩:=hx;obtain⟨y,ey,ry⟩:=hy;refine QC ⟨_,rfl,?_⟩;refine wpAny_letOwnedTupleGo_zip hz' λg' hz2 sb=>?_;have hpz:s.heap.objs.size≠z:=MA (PD hz);have hp':Rm g' s.heap.objs.size u v:=sb.extBut _ _ hpz hp;have I':Inv X pins σ (upd H s.heap.objs.size (.tup [x,y])) {s with heap:=g',toks:=tk}:=Inv.turnedL (ch:=[z,TI,TO,i1,i2]) I hf (λc o hc e=>by
   simp only[NP,NQ,or_false,not_or]at hc;exact sb.extBut _ _ hc.1 (kp c o hc.1 hc.2.2.1 hc.2.2.2.1 hc.2.2.2.2 e)) (MC _) ⟨by show 2<=Qm;decide,[u,v],.cons rx (.cons ry .nil),_,hp',rfl,_,rfl⟩
  have fr:H s.heap.objs.size=none:=I.fresh;have ne:∀c∈[z,TI,TO,i1,i2],c≠s.heap.objs.size:=λc hc e=>by
   simp only[NP,NQ,or_false]at hc;rcases hc with rfl|rfl|rfl|rfl|rfl
   ·exact hpz e.symm
   ·exact absurd (PD hI) (by rw[e];exact Mp _)
   ·exact absurd (PD hO) (by rw[e];exact Mp _)
   ·obtain⟨o,q,_⟩:=s1.get;exact absurd (PD q) (by rw[e];exact Mp _)
   ·obtain⟨o,q,_⟩:=s2.get;exact absurd (PD q) (by rw[e];exact Mp _)
  refine⟨.ref s.heap.objs.size,_,I',rfl,⟨_,x,y,rfl,fr,rfl,λxs' h=>by rw[Inv.sx_inj I h g1];exact ex,λys' h=>by rw[Inv.sx_inj I h g2];exact ey⟩,⟨hz2,?_,⟨u,v,sb.extBut _ _ Ap.a2 hO'⟩,?_,?_⟩,λc hc=>by rw[aM (ne c hc)];exact(hf c hc).1⟩
  ·exact sb.extBut _ _ Ap.a1 (kp TI _ Ap.a1 Ap.a3 Ap.d1 Ap.d2 hI)
  ·exact t1.1.keep λo e=>sb.extBut _ _ n3.symm e
  ·exact t2.1.keep λo e=>sb.extBut _ _ n4.symm e
 done:=by
  intro X hP hw hK hc i pins s σ H E I hf ⟨hz,hI,⟨a,b,hO⟩,s1,s2⟩ hg;subst hP hw hK;obtain⟨xs,ys,g1,g2,hl⟩:=hg;obtain⟨its1,r1,q1,z1⟩:=Inv.sx I g1;obtain⟨its2,r2,q2,z2⟩:=Inv.sx I g2;have hh:X.A.in1.handled=none:=I.ok.hd hc;have hT:s.TypeIs (.ref z) "zip":=⟨_,hz,rfl⟩
  unfold pyNext;refine QD (Rt (Q2 (name:=Str.ofString "__next__") hT F.slot_zip_next (Q3 F.slot_zip_next hT F.entry_zip_next
   (next_end (i:=i) Ap (lR (A:=X.A.in1) b1 hh i1 a1 n1 its1.toArray) (lR (A:=X.A.in1) b2 hh i2 a2 n2 its2.toArray) hz hI hO ⟨s1,q1⟩ ⟨s2,q2⟩ (by rw[MF,MF,<-r1.length,<-r2.length];exact hl) λg e tk kp he=>?_) (F.args_zip_next_1 _))))
  obtain⟨o,ho,hce⟩:=he;refine QD (Ru (T:="StopIteration") (b:=true) ⟨o,ho,hce⟩ isSubtype_stop ?_);refine QC ⟨rfl,Inv.turned0 (ch:=[z,TI,TO,i1,i2]) I hf λc o hc e=>?_⟩;simp only[NP,NQ,or_false,not_or]at hc;exact kp c o hc.1 hc.2.2.1 hc.2.2.2.1 hc.2.2.2.2 e
 self:=λ_ _ _ _ _ ⟨hz,_⟩ h=>wpAny_pyIter_zip hz h
def Ej:D->Option (Bool×List D)
 |.lst xs=>some (true,xs)
 |.tup xs=>some (false,xs)
 |_=>none
theorem rk{K:OZ}{H:Hp}{d:D}{b:Bool}{xs:List D}{v:V}(e:Ej d=some (b,xs))(h:cO K H d v):∃a vs,v=.ref a/\SX K b H a vs/\bh K H xs vs:=by
 cases d with
 |lst ys=>cases e;exact cE.mp h
 |tup ys=>cases e;obtain⟨a,vs,e1,e2,e3⟩:=cD.mp h;exact⟨a,vs,e1,oF.of e2,e3⟩
 |_=>cases e
def km:List D->List D->List D
 |x::xs,y::ys=>.tup [x,y]::km xs ys
 |_,_=>[]
theorem pU:∀xs ys:List D,(km xs ys).length=min xs.length ys.length
 |[],_=>by simp[km]
 |_::_,[]=>by simp[km]
 |x::xs,y::ys=>by
  rw[km,M6,pU xs ys,M6,M6];omega
theorem vJ:∀{xs ys:List D}{i:Nat}{d:D},(km xs ys)[i]?=some d->∃x y,xs[i]?=some x/\ys[i]?=some y/\d=.tup [x,y]
 |[],_,i,d,h=>by simp[km]at h
 |_::_,[],i,d,h=>by simp[km]at h
 |x::xs,y::ys,0,d,h=>by
  rw[km,NR]at h;cases h;exact⟨x,y,rfl,rfl,rfl⟩
 |x::xs,y::ys,i+1,d,h=>by
  rw[km,NS]at h;obtain⟨a,b,h1,h2,h3⟩:=vJ h;exact⟨a,b,by rw[NS];exact h1,by rw[NS];exact h2,h3⟩
theorem Bm{K:OZ}{Hd:Hp}{b1 b2:Bool}{a1 a2:Qj}{ds es:List D}{vs ws:List V}(h1:SX K b1 Hd a1 vs)(g1:bh K Hd ds vs)(h2:SX K b2 Hd a2 ws)(g2:bh K Hd es ws):Walk K Hd (LW K b1 b2 a1 a2) (km ds es):=λHn O' i hO sm=>
  have s':bz Hd Hn:=sm.trans (aI Hn O')
  ⟨fun d e=>by
    obtain⟨x,y,e1,e2,rfl⟩:=vJ e;have l1:i<ds.length:=(List.getElem?_eq_some_iff.mp e1).1;have l2:i<es.length:=(List.getElem?_eq_some_iff.mp e2).1;obtain⟨v,ev,dv⟩:=g1.get e1;obtain⟨w,ew,dw⟩:=g2.get e2;refine⟨⟨vs,ws,h1.same s',h2.same s',by rw[<-g1.length];exact l1,by rw[<-g2.length];exact l2⟩,λu H2 ⟨p,x',y',eu,hp,eH,q1,q2⟩=>?_⟩;have z1:=q1 vs (h1.same s');rw[ev]at z1;cases z1;have z2:=q2 ws (h2.same s');rw[ew]at z2;cases z2;subst eH eu;exact⟨bW hp _,fD hO hp (bE.mpr ⟨v,_,rfl,dv.mono sm,bE.mpr ⟨w,_,rfl,dw.mono sm,cU.mpr rfl⟩⟩)⟩,
   λhl=>by
    rw[pU]at hl;refine⟨vs,ws,h1.same s',h2.same s',?_⟩;rw[<-g1.length,<-g2.length]
    omega⟩
def xI:List D->Option (List D)
 |[a,b]=>(Ej a).bind λx=>(Ej b).bind λy=>some (km x.2 y.2)
 |_=>none
def AO(f:aw->R (List D)):aw->R (List D):=λρ=>(f ρ).bind λds=>rO (xI ds)
section
variable{X:Cx}
theorem GR{a b c:Qj}(h1:a≠b)(h2:a≠c):a∉[b,c]:=λh=>by
 rcases List.mem_cons.mp h with z|z
 ·exact h1 z
 ·exact h2 (List.mem_singleton.mp z)
theorem zR{n a1 a2:Qj}(h1:a1<n)(h2:a2<n):Apart (n+4) (n+2) (n+3) n (n+1) [n,a1] [n+1,a2]:=by
 have lt:∀{a b:Nat},a<b->(b:Qj)≠(a:Qj):=λh=>MA h;have lt':∀{a b:Nat},a<b->(a:Qj)≠(b:Qj):=λh=>Mq h;have g:∀k:Nat,a1<n+k:=λk=>Mo h1 (NT _ _);have g':∀k:Nat,a2<n+k:=λk=>Mo h2 (NT _ _);have p:∀{j k:Nat},j<k->n+j<n+k:=λh=>NU h n;have p0:∀{k:Nat},0<k->n<n+k:=λh=>NV h;exact⟨lt' (p (by decide)),lt' (p (by decide)),lt' (p (by decide)),GR (lt (p0 (by decide))) (lt (g 4)),GR (lt (p0 (by decide))) (lt (g 3)),GR (lt (p0 (by decide))) (lt (g 1)),
  GR (lt (p (by decide))) (lt (g' 4)),GR (lt (p (by decide))) (lt (g' 3)),GR (lt' (p0 (by decide))) (lt h2),lt (p0 (by decide)),lt (p (by decide)),Mv,Mv⟩
theorem Fw{pins:List (Qj×Obj)}{s:Qs}{σ:St}{H:Hp}{O:List Qj}{es:List Qv}{k:Nat}{tpos:Pos}{ds r:List D}{vs:List V}{us:List Qg}{RR:It->Hp->Prop}(I:Inv X pins σ H s)(hc:xI ds=some r)(d1:bh X.K (hid H O) ds vs)(rv:Vals vs us)(q:∀J,Walk X.K (hid H O) J r->RR J H):
  Qu (model X.prog X.w) X.A (call (.type "zip") us) (λv s1=>Qu (model X.prog X.w) X.A (pyIter v) (PIE X pins σ (.Tuple es k tpos) RR) X.xe s1) X.xe s:=by
 unfold xI at hc;split at hc
 ·rename_i a b;obtain⟨⟨b1,xs⟩,e1,hc⟩:=bind_some hc;obtain⟨⟨b2,ys⟩,e2,hc⟩:=bind_some hc;cases hc;obtain⟨va,vb,rfl,da,db⟩:=d1.two;obtain⟨u1,u2,rfl,r1,r2⟩:=vals2 rv;obtain⟨a1,ws1,rfl,x1,y1⟩:=rk e1 da;obtain⟨a2,ws2,rfl,x2,y2⟩:=rk e2 db;cases r1;cases r2;obtain⟨its1,rr1,q1,_⟩:=Inv.sx I (x1.same (aI H O));obtain⟨its2,rr2,q2,_⟩:=Inv.sx I (x2.same (aI H O));refine CV q1 q2 λg hz hI hO s1 s2 kp=>wpAny_pyIter_zip hz ?_;have Ap:=zR q1.lt q2.lt;refine⟨_,_,_,_,H,rfl,I.kept (t':=s.toks) kp,Bn (b1:=b1) (b2:=b2) Ap (Mq q1.lt) (Mq (Mo q2.lt (NT _ 1))) (MA (NV (by decide))) (MA (NU (by decide) _)),⟨hz,hI,⟨_,_,hO⟩,s1,s2⟩,λb hb=>?_,q _ (Bm x1 y1 x2 y2)⟩;have le:s.heap.objs.size<=b:=by
   simp only[NP,NQ,or_false]at hb;rcases hb with rfl|rfl|rfl|rfl|rfl
   ·exact NT _ _
   ·exact NT _ _
   ·exact NT _ _
   ·exact MC _
   ·exact NT _ _
  exact I.fpOk le (I.hok.fresh le)
 ·cases hc
theorem JT{a b:Qv}{es:List Qv}{k:Nat}{tpos:Pos}{f:aw->R (List D)}{p pos:Pos}(hg:Gl X "zip")(hm:X.mg "zip"=none)(ha:FA X [a,b] f)(hs:Qw [a,b] X.env=(false,eval a X.env)::Qw [b] X.env:=by rfl)(hpl:(backTo pos (Qw [b] X.env)).any (·.1)=false:=by rfl):FI X (.Tuple es k tpos) (.Call (.Name "zip" p) [a,b] [] pos) (AO f):=by
 intro pins s σ H RR I ⟨O,ρ,E,hG⟩;have hA:=ha pos pins s σ H (λvs H1=>∃ds r,xI ds=some r/\bh X.K (hid H1 O) ds vs/\∀J,Walk X.K (hid H1 O) J r->RR J H1) I ⟨O,ρ,E,(iX.bind hG).imp λds hG vs H1 s1 d1=>by
  obtain⟨r,e,q⟩:=iX.rO hG;exact⟨ds,r,e,d1,λJ wk=>q J H1 s1 wk⟩⟩
 refine P0 (lx I hg hm PyProof.Rows.boot_zip (PV (eJ hA λus s1 ⟨vs,H1,I1,r1,ds,r,er,d1,q⟩=>?_) hs hpl));exact Fw I1 er d1 r1 q
end
def LA(K:OZ)(b:Bool)(a:Qj):It:=
  ⟨fun i H=>∃ xs,SX K b H a xs/\i < xs.length,
   λi H v H'=>∃p x,v=.ref p/\H p=none/\H'=upd H p (.tup [.int i,x])/\∀xs,SX K b H a xs->xs[i]?=some x,
   λi H=>∃xs,SX K b H a xs/\i=xs.length⟩
theorem AG{P:Qi}{w:Qh}{K:OZ}{es:List Qv}{k:Nat}{pos:Pos}{b:Bool}{a e it:Qj}(n1:a≠it)(n2:e≠it)(n3:e≠a):Turn P w K (.Tuple es k pos) (LA K b a) [e,it] e (λi h=>(∃old,IsEnum h e it i old)/\SI b h it a i)where
 mem:=by simp
 obj:=λi h ⟨⟨old,he⟩,s1⟩ c hc=>by
  simp only[NP,NQ,or_false]at hc;rcases hc with rfl|rfl
  ·exact⟨_,he,λv q=>by cases q⟩
  ·exact s1.get
 keep:=λi h h' ⟨⟨old,he⟩,s1⟩ kp=>⟨⟨old,kp e (by simp) _ he⟩,s1.keep λo q=>kp it (by simp) o q⟩
 item:=by
  intro X hP hw hK hc i pins s σ H E I hf ⟨⟨old,he⟩,s1⟩ hg;subst hP hw hK;obtain⟨xs,g1,l1⟩:=hg;obtain⟨its,r1,q1,z1⟩:=Inv.sx I g1;have hh:X.A.in1.handled=none:=I.ok.hd hc;refine wpAny_pyNext_enum_itemD (lR (A:=X.A.in1) b hh it a n1 its.toArray) he ⟨s1,q1⟩ (by rw[MF,<-r1.length];exact l1) n2 (GR n2 n3) λu g tk p1 ho t1 hp sz kp=>?_;have e1:its[i]?=some u:=by simpa using p1
  obtain⟨u',hu,ru⟩:=r1.get (i:=i) (x:=xs[i]) (by simp[l1]);rw[e1]at hu;cases hu;refine⟨_,rfl,wpAny_letOwnedTupleGo_enum ho λg' he' sb=>?_⟩;have hpe:s.heap.objs.size≠e:=MA (PD he);have hp':=sb.extBut _ _ hpe hp;have I':Inv X pins σ (upd H s.heap.objs.size (.tup [.int i,xs[i]])) {s with heap:=g',toks:=tk+1}:=Inv.turnedL (ch:=[e,it]) I hf (λc o hc q=>by
   simp only[NP,NQ,or_false,not_or]at hc;exact sb.extBut _ _ hc.1 (kp c o hc.1 hc.2 q)) (MC _) ⟨by show 2<=Qm;decide,[.int i tk,u],.cons ⟨_,rfl⟩ (.cons ru .nil),_,hp',rfl,_,rfl⟩
  have ne:∀c∈[e,it],c≠s.heap.objs.size:=λc hc q=>by
   simp only[NP,NQ,or_false]at hc;rcases hc with rfl|rfl
   ·exact hpe q.symm
   ·obtain⟨o,q',_⟩:=s1.get;exact absurd (PD q') (by rw[q];exact Mp _)
  refine⟨.ref s.heap.objs.size,_,I',rfl,⟨_,xs[i],rfl,I.fresh,rfl,λxs' h=>by rw[Inv.sx_inj I h g1];simp[l1]⟩,⟨⟨u,?_⟩,t1.1.keep λo q=>sb.extBut _ _ n2.symm q⟩,λc hc=>by rw[aM (ne c hc)];exact(hf c hc).1⟩;have ei:((i+1:Nat):Int)=(i:Int)+1:=by omega
  rw[ei];exact he'
 done:=by
  intro X hP hw hK hc i pins s σ H E I hf ⟨⟨old,he⟩,s1⟩ hg;subst hP hw hK;obtain⟨xs,g1,l1⟩:=hg;obtain⟨its,r1,q1,z1⟩:=Inv.sx I g1;have hh:X.A.in1.handled=none:=I.ok.hd hc;have el:i=its.toArray.size:=by rw[MF,<-r1.length];exact l1
  refine wpAny_pyNext_enum_endD (lR (A:=X.A.in1) b hh it a n1 its.toArray) he ⟨by rw[<-el];exact s1,q1⟩ λg kp=>⟨rfl,Inv.turned0 (ch:=[e,it]) I hf λc o hc q=>?_⟩
  simp only[NP,NQ,or_false,not_or]at hc;exact kp c o hc.2 q
 self:=λ_ _ _ _ _ ⟨⟨old,he⟩,_⟩ h=>wpAny_pyIter_enum he h
def kM(i:Nat):List D->List D
 |[]=>[]
 |x::xs=>.tup [.int i,x]::kM (i+1) xs
theorem nV:∀(i:Nat)(xs:List D),(kM i xs).length=xs.length
 |_,[]=>rfl
 |i,x::xs=>by rw[kM,M6,nV (i+1) xs,M6]
theorem uo:∀{xs:List D}{k i:Nat}{d:D},(kM k xs)[i]?=some d->∃x,xs[i]?=some x/\d=.tup [.int ((k+i:Nat):Int),x]
 |[],k,i,d,h=>by simp[kM]at h
 |x::xs,k,0,d,h=>by
  rw[kM,NR]at h;cases h;exact⟨x,rfl,rfl⟩
 |x::xs,k,i+1,d,h=>by
  rw[kM,NS]at h;obtain⟨y,h1,h2⟩:=uo h;refine⟨y,by rw[NS];exact h1,?_⟩;rw[h2];congr 4;omega
theorem AZ{K:OZ}{Hd:Hp}{b:Bool}{a:Qj}{ds:List D}{vs:List V}(h1:SX K b Hd a vs)(g1:bh K Hd ds vs):Walk K Hd (LA K b a) (kM 0 ds):=λHn O' i hO sm=>
  have s':bz Hd Hn:=sm.trans (aI Hn O')
  ⟨fun d e=>by
    obtain⟨x,e1,rfl⟩:=uo e;have l1:i<ds.length:=(List.getElem?_eq_some_iff.mp e1).1;obtain⟨v,ev,dv⟩:=g1.get e1;refine⟨⟨vs,h1.same s',by rw[<-g1.length];exact l1⟩,λu H2 ⟨p,x',eu,hp,eH,q1⟩=>?_⟩;have z1:=q1 vs (h1.same s');rw[ev]at z1;cases z1;subst eH eu;rw[NW];exact⟨bW hp _,fD hO hp (bE.mpr ⟨.int i,_,rfl,eZ.mpr rfl,bE.mpr ⟨v,_,rfl,dv.mono sm,cU.mpr rfl⟩⟩)⟩,
   λhl=>by
    rw[nV]at hl;exact⟨vs,h1.same s',by rw[<-g1.length];exact hl⟩⟩
def ux:List D->Option (List D)
 |[a]=>(Ej a).bind λx=>some (kM 0 x.2)
 |_=>none
def gJ(f:aw->R (List D)):aw->R (List D):=λρ=>(f ρ).bind λds=>rO (ux ds)
section
variable{X:Cx}
theorem Az{prog:Qi}{w:Qh}{A:Qr}{E:Qg->Qs->Prop}{s:Qs}{b:Bool}{l:Qj}{xs:Array Qg}{Q:Qg->Qs->Prop}(h1:SQ b s.heap l xs)
  (h:∀g,IsEnum g (s.heap.objs.size+1) s.heap.objs.size 0 .none->SI b g s.heap.objs.size l 0->(∀c o,s.heap.get? c=some o->g.get? c=some o)->Q (.ref (s.heap.objs.size+1)) {s with heap:=g}):Qu (model prog w) A (call (.type "enumerate") [.ref l]) Q E s:=by
 refine callType_new F.called_enumerate (by decide) (F.typeCall_enumerate_1 _) (F.newCall_enumerate_1 _) (λobj=>F.args_object_init_2 obj _) F.entry_enumerate_new (Ax b l xs) ⟨h1,?_⟩;have z1:(Bf b s.heap l).objs.size=s.heap.objs.size+1:=PL ..
 have g2:=PK (Bf b s.heap l) (o:={cls:=.type "enumerate",data:=.fields #[.none,.bool false,.ref s.heap.objs.size,rawInt 0,.none,.none]}) rfl;have g1:SI b ((Bf b s.heap l).push {cls:=.type "enumerate",data:=.fields #[.none,.bool false,.ref s.heap.objs.size,rawInt 0,.none,.none]}) s.heap.objs.size l 0:=SI.keep SI.new λo e=>PJ _ e;show _/\_;rw[z1]at g2 ⊢;exact⟨⟨_,g2,rfl⟩,h _ g2 g1 λc o e=>PJ _ (PJ _ e)⟩
theorem D8{pins:List (Qj×Obj)}{s:Qs}{σ:St}{H:Hp}{O:List Qj}{es:List Qv}{k:Nat}{tpos:Pos}{ds r:List D}{vs:List V}{us:List Qg}{RR:It->Hp->Prop}(I:Inv X pins σ H s)(hc:ux ds=some r)(d1:bh X.K (hid H O) ds vs)(rv:Vals vs us)(q:∀J,Walk X.K (hid H O) J r->RR J H):
  Qu (model X.prog X.w) X.A (call (.type "enumerate") us) (λv s1=>Qu (model X.prog X.w) X.A (pyIter v) (PIE X pins σ (.Tuple es k tpos) RR) X.xe s1) X.xe s:=by
 unfold ux at hc;split at hc
 ·rename_i a;obtain⟨⟨b1,xs⟩,e1,hc⟩:=bind_some hc;cases hc;obtain⟨va,rfl,da⟩:=d1.one;obtain⟨u1,rfl,r1⟩:=vals1 rv;obtain⟨a1,ws1,rfl,x1,y1⟩:=rk e1 da;cases r1;obtain⟨its1,rr1,q1,_⟩:=Inv.sx I (x1.same (aI H O));refine Az q1 λg he s1 kp=>wpAny_pyIter_enum he ?_;refine⟨_,_,_,_,H,rfl,I.kept (t':=s.toks) kp,AG (b:=b1) (Mq q1.lt) (MA (NV (by decide))) (MA (Mo q1.lt (NT _ 1))),⟨⟨_,he⟩,s1⟩,λb hb=>?_,q _ (AZ x1 y1)⟩;have le:s.heap.objs.size<=b:=by
   simp only[NP,NQ,or_false]at hb;rcases hb with rfl|rfl
   ·exact NT _ _
   ·exact MC _
  exact I.fpOk le (I.hok.fresh le)
 ·cases hc
theorem Es{a:Qv}{es:List Qv}{k:Nat}{tpos:Pos}{f:aw->R (List D)}{p pos:Pos}(hg:Gl X "enumerate")(hm:X.mg "enumerate"=none)(ha:FA X [a] f)(hs:Qw [a] X.env=(false,eval a X.env)::Qw [] X.env:=by rfl)(hpl:(backTo pos (Qw [] X.env)).any (·.1)=false:=by rfl):FI X (.Tuple es k tpos) (.Call (.Name "enumerate" p) [a] [] pos) (gJ f):=by
 intro pins s σ H RR I ⟨O,ρ,E,hG⟩;have hA:=ha pos pins s σ H (λvs H1=>∃ds r,ux ds=some r/\bh X.K (hid H1 O) ds vs/\∀J,Walk X.K (hid H1 O) J r->RR J H1) I ⟨O,ρ,E,(iX.bind hG).imp λds hG vs H1 s1 d1=>by
  obtain⟨r,e,q⟩:=iX.rO hG;exact⟨ds,r,e,d1,λJ wk=>q J H1 s1 wk⟩⟩
 refine P0 (lx I hg hm PyProof.Rows.boot_enumerate (PV (eJ hA λus s1 ⟨vs,H1,I1,r1,ds,r,er,d1,q⟩=>?_) hs hpl));exact D8 I1 er d1 r1 q
end
end TG
namespace TG
open PySem PySem.Spec L2
variable[bc]
theorem Ba{K:OZ}{c:Str}{C C':Qj}(h:clsAt K c C)(h':clsAt K c C'):C=C':=by
 unfold clsAt at h h';rw[h]at h';cases h';rfl
theorem ue{f:Str}:∀{fs:List Str}{vs:List V},fs.contains f=false->(fs.zip vs).lookup f=none
 |[],_,_=>by simp
 |_::_,[],_=>by simp
 |g::fs,x::vs,h=>by
  rw[NX,Bool.or_eq_false_iff]at h;rw[NY,Nc,h.1];exact ue h.2
def LX(f:Str)(cs:List Str)(d:D):Option D:=match d with
 |.obj c fs vs=>if cs.contains c then(fs.zip vs).lookup f else none
 |_=>none
section
variable{X:Cx}{a o e:Qv}{es:List Qv}{fa fo:FX}{fas:aw->R (List D)}{f m x:Str}{cs:List Str}{pos apos p:Pos}{k k':Nat}{ps:List Str}
def MethAt(P:Qi)(w:Qh)(K:OZ)(mg:Str->Option Qg)(base:Ql)(k:Nat)(c m:Str)(ps:List Str)(g:List D->R D):Prop:=
 ∃C f fd,clsAt K c C/\Fz K C/\Meth K C m f/\mU P w K mg base (nF P w) k f fd ps (Bd K ps.length g)/\Binds K fd ps []
def ga(m:Str)(tbl:List (Str×(List D->R D)))(fo:FX)(fas:aw->R (List D)):FX:=λρ=>(fo ρ).bind λo=>match o with
 |.obj c fs vs=>match tbl.lookup c with
  |some g=>if fs.contains m then un else(fas ρ).bind λas=>g (o::as)
  |none=>un
 |_=>un
def nh(P:Qi)(w:Qh)(K:OZ)(mg:Str->Option Qg)(base:Ql)(k:Nat)(m:Str)(ps:List Str)(tbl:List (Str×(List D->R D))):Prop:=
 ∀c g,tbl.lookup c=some g->MethAt P w K mg base k c m ps g/\Ar ps.length g
theorem zv{P:Qi}{w:Qh}{K:OZ}{mg:Str->Option Qg}{base:Ql}:nh P w K mg base k m ps []:=λ_ _ h=>nomatch h
theorem nU{P:Qi}{w:Qh}{K:OZ}{mg:Str->Option Qg}{base:Ql}{c:Str}{g:List D->R D}{tbl:List (Str×(List D->R D))}(h:MethAt P w K mg base k c m ps g)(hn:Ar ps.length g)(t:nh P w K mg base k m ps tbl):nh P w K mg base k m ps ((c,g)::tbl):=λc' g' e=>by
 rw[Nc]at e;cases hc:c'==c with
 |true=>
  rw[hc]at e;cases e
  have:c'=c:=by simpa using hc
  subst this;exact⟨h,hn⟩
 |false=>rw[hc]at e;exact t c' g' e
theorem MethAt.mono{P:Qi}{w:Qh}{K:OZ}{mg:Str->Option Qg}{base:Ql}{c:Str}{g:List D->R D}(h:MethAt P w K mg base k c m ps g)(hk:k<=k'):MethAt P w K mg base k' c m ps g:=by
 obtain⟨C,f,fd,h1,h2,h3,h4,h5⟩:=h;exact⟨C,f,fd,h1,h2,h3,h4.mono hk,h5⟩
theorem BU{tbl:List (Str×(List D->R D))}{args:List Qv}{pl:Sem Bool}(tb:nh X.prog X.w X.K X.mg X.base k m ps tbl)(hr:iB k X.A)(ho:FE X o fo)
  (hc:∀ (pins:List (Qj×Obj)) (s1:Qs) (σ:St) (H1:Hp) (O:List Qj) (ρ:aw) (a f:Qj) (od:D) (Q:VK) (g:List D->R D) (fd:QR) (w0:V),Ph X.K (.ref f)=true->mU X.prog X.w X.K X.mg X.base (nF X.prog X.w) k f fd ps (Bd X.K ps.length g)->Binds X.K fd ps []->Ar ps.length g->Inv X pins σ H1 s1->dU X.K O H1 ρ σ->cO X.K (hid H1 O) od (.ref a) ->
   (iX X σ O H1 ((fas ρ).bind λas=>g (od::as)) λd=>∀v H',bz H1 H'->cO X.K (hid H' O) d v->Q v H')->
   Qu (model X.prog X.w) X.A (QN pos (.ref f) [.ref a] (backTo pos (Qw args X.env)) (backToKw pos (QO [] X.env))) (EP X pins σ Q) X.xe s1)
  (ht:eval (.Call (.Attribute o m apos) args [] pos) X.env=(do
   let ov<-eval o X.env
   standAt apos.atName
   let (f,first)<-holding [ov] (getMethod ov m pl)
   QN pos f first (backTo pos (Qw args X.env)) (backToKw pos (QO [] X.env)))):
  FE X (.Call (.Attribute o m apos) args [] pos) (ga m tbl fo fas):=by
 intro pins s σ H Q I ⟨O,ρ,E,hF⟩;refine vU ho I ?_ ht;refine⟨O,ρ,E,(iX.bind hF).imp λd hF v H1 s1 d1=>?_⟩;cases d with
 |obj c fs vs=>
  have hF':iX X σ O H (match tbl.lookup c with|some g=>if fs.contains m then un else(fas ρ).bind λas=>g (.obj c fs vs::as)|none=>un) _:=hF;cases hg:tbl.lookup c with
  |none=>rw[hg]at hF';exact hF'.elim
  |some g=>
   rw[hg]at hF';have hF2:iX X σ O H (if fs.contains m then un else(fas ρ).bind λas=>g (.obj c fs vs::as)) _:=hF';cases hm:fs.contains m with
   |true=>rw[hm]at hF2;exact hF2.elim
   |false=>
    rw[hm]at hF2;have hF3:iX X σ O H ((fas ρ).bind λas=>g (.obj c fs vs::as)) _:=hF2;have d0:=d1;obtain⟨a,ws,ev,g1,g2,C,dx,g3,g4⟩:=Jy.mp d1;obtain⟨⟨C',f,fd,m1,m2,m3,m4,m5⟩,ar⟩:=tb c g hg;have eC:=Ba g3 m1;subst eC;subst ev;refine⟨a,C,dx,_,f,rfl,aI H1 O _ _ g4,m2,m3,ue hm,λs2 I2=>?_⟩;exact hc pins s2 σ H1 O ρ a f _ Q g fd (.ref a) m3.kp m4 m5 ar I2 (E.same s1) d0 ((hF3.mono s1).imp λd q v H2 s2 d2=>q v H2 (s1.trans s2) d2)
 |_=>exact hF.elim
theorem x9{σ:St}{O:List Qj}{H:Hp}{g:List D->R D}{ds:List D}{vs:List V}{Q:VK}{n:Nat}(ar:Ar n g)(hO:dQ H O)(d1:bh X.K (hid H O) ds vs)(h:iX X σ O H (g ds) λd=>∀v H',bz H H'->cO X.K (hid H' O) d v->Q v H'):∃E,lL (nF X.prog X.w) X σ E/\Bd X.K n g vs H Q E:=by
 cases hg:g ds with
 |ok d=>
  rw[hg]at h;refine⟨E0,zG,O,ds,by rw[<-d1.length];exact ar ds (by rw[hg];intro z;cases z),hO,d1,?_⟩;rw[hg];exact h
 |error z=>
  rw[hg]at h;cases z with
  |none=>exact h.elim
  |some x=>
   refine⟨zz X O H x,zH h,O,ds,by rw[<-d1.length];exact ar ds (by rw[hg];intro z;cases z),hO,d1,?_⟩;rw[hg];exact v8
theorem Jt{tbl:List (Str×(List D->R D))}{pl:Sem Bool}(tb:nh X.prog X.w X.K X.mg X.base k m ps tbl)(hr:iB k' X.A)(hk:k<=k')(ho:FE X o fo)(ha:FA X (e::es) fas)
  (hns:(e::es).all noStar=true:=by rfl)
  (ht:eval (.Call (.Attribute o m apos) (e::es) [] pos) X.env=(do
   let ov<-eval o X.env
   standAt apos.atName
   let (f,first)<-holding [ov] (getMethod ov m pl)
   QN pos f first (backTo pos (Qw (e::es) X.env)) (backToKw pos (QO [] X.env))):=by rfl):
  FE X (.Call (.Attribute o m apos) (e::es) [] pos) (ga m tbl fo fas):=
 BU tb (hr.mono hk) ho (λpins s1 σ H1 O ρ a f od Q g fd _ kp F b ar I1 E1 dO hP=>by
  refine Pq (first:=[.ref a]) (h₀:=X.base) I1.ok.mod.kin kp (eJ (ha pos pins s1 σ H1 _ I1 ⟨O,ρ,E1,(iX.bind hP).imp λas hP vs H2 s2 d2=>x9 (vs:=.ref a::vs) ar (E1.all.same s2) (bE.mpr ⟨_,_,rfl,dO.mono (cw s2),d2⟩) ((hP.mono s2).imp λd q v H3 s3 d3=>q v H3 (s2.trans s3) d3)⟩) λus s2 ⟨vs,H2,I2,r,Ex,hx,q2⟩=>⟨I2.kIn,?_⟩) (e7 (MV _ _ ▸ hns).1) (iN (MV _ _ ▸ hns).2);exact zx (us:=.ref a::us) (vs:=.ref a::vs) F (hr.mono hk) b hx I2 (.cons rfl r) q2) ht
theorem mh{P:Qi}{w:Qh}{K:OZ}{mg:Str->Option Qg}{base:Ql}{c y qual:Str}{C f:Qj}{fd:QR}{st:Qx}{N:List Str}{B:cx}(h1:clsAt K c C)(h2:Fz K C)(h3:Meth K C m f)(F:xC K y qual st f fd)(b:Binds K fd ps [])(SC:bq N ps (aA st))(hb:BodyOk P w K mg base k N qual st f B):
  MethAt P w K mg base (k+1) c m ps (bi B ps.length N.length):=⟨C,f,fd,h1,h2,h3,vg F SC hb,b⟩
theorem vV{K:OZ}{H1:Hp}{O:List Qj}{c:Str}{fs:List Str}{as:List D}{vs:List V}{C x dx:Qj}(hc:clsAt K c C)(hl:as.length=fs.length)(d1:bh K (hid H1 O) as vs)(hO:dQ H1 O)(hx:H1 x=none)(hd:H1 dx=none)(ne:dx≠x):
  bz H1 (upd (upd (upd H1 dx (.own x)) x (.ins C dx [])) x (.ins C dx (fs.zip vs)))/\cO K (hid (upd (upd (upd H1 dx (.own x)) x (.ins C dx [])) x (.ins C dx (fs.zip vs))) O) (.obj c fs as) (.ref x):=by
 have sm:bz H1 (upd (upd (upd H1 dx (.own x)) x (.ins C dx [])) x (.ins C dx (fs.zip vs))):=λb o h=>by
  have n1:=bd h hx;have n2:=bd h hd;rw[aM n1,aM n1,aM n2];exact h
 exact⟨sm,Jy.mpr ⟨x,vs,rfl,d1.mono (cw sm),by rw[<-d1.length,hl],C,dx,hc,by rw[js (hO.not hx),aZ]⟩⟩
end
end TG
namespace TG
open PySem PySem.Spec L2
variable[bc]
section
variable{X:Cx}
def Mi:D->Option Str
 |.str z=>some z
 |_=>none
def Lq(a b:D):Option D:=match a,b with
 |.bl c,.bl d=>some (.bl (c==d))
 |_,_=>none
def Ee(a b:D):Option D:=match a,b with
 |.bl c,.bl d=>some (.bl (!(c==d)))
 |_,_=>none
end
structure LI(K:OZ)(C:Qj):Prop where
 makes:O6 K C=true
 init:O2 K (.ref C) "__init__"=some (some (.builtin "object.__init__"))
 kp:Ph K (.ref C)=true
section
variable{X:Cx}{C:Qj}{pins:List (Qj×Obj)}{σ:St}{H:Hp}{s:Qs}{Q:VK}
theorem run_plain(M:LI X.K C)(I:Inv X pins σ H s)(h:∀x dx,H x=none->H dx=none->dx≠x->Q (.ref x) (upd (upd H dx (.own x)) x (.ins C dx []))):
  Qu (model X.prog X.w) X.A (call (.ref C) []) (EP X pins σ Q) X.xe s:=by
 have hq:=h (s.heap.objs.size+1) s.heap.objs.size (I.hok.fresh (Nat.le_succ _)) (I.hok.fresh (MC _)) (Mq (Nat.lt_succ_self _));have I2:=Inv.made (C:=C) I;have e1:((s.heap.push O8).push (OX C s.heap.objs.size)).get? (s.heap.objs.size+1)=some (OX C s.heap.objs.size):=by
  have:=PK (s.heap.push O8) (o:=OX C s.heap.objs.size) rfl
  rwa [PL]at this
 have hb:∀self,O7 (model X.prog X.w) s.heap (bindSpecial (.builtin "object.__init__") self) (.builtin "object.__init__",[self]):=λself=>PySem.W.Looks.of_pure (PySem.W.oi_bind self);refine wpAny_call (AW I.kIn M.makes M.init hb ?_);have h3:O7 (model X.prog X.w) ((s.heap.push O8).push (OX C s.heap.objs.size)) (isInstance (.ref (s.heap.objs.size+1)) (.type "object")) true:=by
  have h4:O7 (model X.prog X.w) ((s.heap.push O8).push (OX C s.heap.objs.size)) (typeOf (.ref (s.heap.objs.size+1))) (.ref C):=PySem.W.Looks.andThen (PySem.W.Looks.ld e1) PySem.W.Looks.now;exact PySem.W.Looks.andThen h4 (((O9 I.kIn M.makes).top).keeps λb o q=>PJ _ (PJ _ q))
 refine codeAny_call_builtin (b:=Builtin.«object.__init__») PySem.W.oi_plain PySem.W.entry_oi ?_;have ha:argsOk "object.__init__" {pos:=[Value.ref (s.heap.objs.size+1)],kw:=[]}:=PySem.W.oi_args _;refine PySem.W.check_slot (i:="object.__init__") (owner:="object") (n:="__init__") (self:=Value.ref (s.heap.objs.size+1)) (rest:=[]) (kw:=[]) PySem.W.oi_kind PySem.W.oi_split h3 ha ?_;rw[PySem.W.oi_run];exact QC ⟨rfl,V.ref (s.heap.objs.size+1),_,I2,rfl,hq⟩
def yV(K:OZ)(mg:Str->Option Qg)(c:Str):Prop:=∃C,clsAt K c C/\LI K C/\mg c=some (.ref C)
theorem Jz{c:Str}{p pos:Pos}(NA:yV X.K X.mg c)(hg:Gl X c)(hdb:(c==("__debug__":Str))=false:=by decide):FE X (.Call (.Name c p) [] [] pos) (fC (.obj c [] [])):=by
 obtain⟨C,h1,h2,h3⟩:=NA;intro pins s σ H Q I ⟨O,ρ,E,hF⟩;refine QV (zg I hg h3 ?_ hdb);refine PySem.W.callWith_K0 I.kIn h2.kp (run_plain h2 I λx dx hx hd ne=>?_);obtain⟨sm,dn⟩:=vV (fs:=[]) (as:=[]) (vs:=[]) h1 rfl (cU.mpr rfl) E.all hx hd ne;have e:upd (upd (upd H dx (.own x)) x (.ins C dx [])) x (.ins C dx (([]:List Str).zip []))=upd (upd H dx (.own x)) x (.ins C dx []):=by rw[DZ];rfl
 rw[e]at sm dn;exact hF _ _ sm dn
end
end TG
namespace TG
open PySem PySem.Spec PyProof.Rows L2
variable[bc]
def eT:List D->List D->Option Bool
 |[],[]=>some false
 |[],_::_=>some true
 |_::_,[]=>some false
 |a::as,b::bs=>match a,b with
  |.int i,.int j=>if i=j then eT as bs else some (decide (i<j))
  |.str x,.str y=>if x=y then eT as bs else some (decide (x.cps.toList<y.cps.toList))
  |_,_=>none
inductive gb:List Qg->List D->Prop where
 |nil:gb [] []
 |int (i:Int) (t:Tok) {vs:List Qg} {ds:List D} (h:gb vs ds):gb (.int i t::vs) (.int i::ds)
 |str (x:Str) (t:Tok) {vs:List Qg} {ds:List D} (h:gb vs ds):gb (.str x t::vs) (.str x::ds)
theorem gb.length:∀{vs:List Qg}{ds:List D},gb vs ds->vs.length=ds.length
 |_,_,.nil=>rfl
 |_,_,.int _ _ h=>by rw[M6,M6,h.length]
 |_,_,.str _ _ h=>by rw[M6,M6,h.length]
theorem Fc(A:Qr)(s:Qs)(a:Int)(t:Tok)(c:Int)(u:Tok):∃e,SeqAt.EqAt A s (.int a t) (.int c u) e/\(e=true↔a=c):=
 ⟨(a==c),SeqAt.EqAt.int_int a t c u,by simp⟩
theorem Fh(A:Qr)(s:Qs)(a:Str)(t:Tok)(c:Str)(u:Tok):∃e,SeqAt.EqAt A s (.str a t) (.str c u) e/\(e=true↔a=c):=
 ⟨(a==c),SeqAt.EqAt.str_str a t c u,by simp⟩
theorem IA(A:Qr)(s:Qs)(a:Str)(t:Tok)(c:Str)(u:Tok)(prog:Qi)(w:Qh)(E:Qg->Qs->Prop)(Q:Qg->Qs->Prop)(h:Q (.bool (decide (a.cps.toList<c.cps.toList))) s):
  Qu (model prog w) A (richCompare .Lt (.str a t) (.str c u)) Q E s:=
 (PySem.P.lt_str h:Qu (model prog w) A (QJ .Lt (.str a t) (.str c u)) Q E s)
section
open PySem.SeqAt
open PySem.AutoSeq1 (wpAny_loadPart')
open PySem.MeetsSeq PySem.MeetsSeq2 PySem.MeetsSeq3
set_option maxHeartbeats 1000000 in
theorem sI(l b:Qj)(items items2:Array Qg)(n n2:Nat)(dd dd2:Option Qj)(sl sl2:Array (Option Qg))(ns ms:List D)(r:Bool)(hi:gb items.toList ns)(hj:gb items2.toList ms)(hr:eT ns ms=some r):
  Meets (Builtin.«tuple.__lt__» ⟨[.ref l,.ref b],[]⟩)
   (fun _ R s=>s.heap.get? l=some { cls:=.type "tuple",dict:=dd,data:=.seq items n,slots:=sl }/\s.heap.get? b=some { cls:=.type "tuple",dict:=dd2,data:=.seq items2 n2,slots:=sl2 } /\
    R (.ok (.ret (.bool r))) s):=
 .of_wp λprog w A R s h=>by
  obtain⟨hp,g,d,tk,os⟩:=s;obtain⟨hl,hb,h⟩:=h;have f2:=AutoSeq1.sub_tuple_tuple;have z1:items.size=ns.length:=by rw[<-hi.length];simp
  have z2:items2.size=ms.length:=by rw[<-hj.length];simp
  wp_walk using wpAny_loadPart' hl,wpAny_loadPart' hb,wpAny_forIn_list _ (λrest b s'=>b.1=none/\s'=⟨hp,g,d,tk,os⟩/\∃(vs ws:List Qg)(ns' ms':List D),rest=vs.zip ws/\
   gb vs ns'/\gb ws ms'/\ns'.length+items2.size=ms'.length+items.size/\eT ns' ms'=some r/\R (.ok (.ret (.bool r))) ⟨hp,g,d,tk,os⟩) _
  case turn=>
   rintro⟨y,x⟩ rest b s' ⟨hb',rfl,vs,ws,ns',ms',hz,hvi,hwi,hlen,hL,hR⟩;cases hvi with
   |nil=>rw[List.zip_nil_left]at hz;cases hz
   |int a t hvi'=>
    cases hwi with
    |nil=>rw[NZ]at hz;cases hz
    |str c u hwi'=>cases hL
    |int c u hwi'=>
     rw[NY]at hz;injection hz with hyx hrest;injection hyx with hy hx;subst hy hx;have hL':(if a=c then eT _ _ else some (decide (a<c)))=some r:=hL;simp only[M6]at hlen;obtain⟨e,he,hiff⟩:=Fc A.in1 ⟨hp,g,d,tk,os⟩ a t c u;refine QD (he prog w _ _ ?_);cases e with
     |true=>
      rw[if_pos (hiff.mp rfl)]at hL'
      wp_walk
      exact⟨rfl,rfl,_,_,_,_,hrest,hvi',hwi',by omega,hL',hR⟩
     |false=>
      rw[if_neg (λq=>absurd (hiff.mpr q) MG)]at hL';cases hL';have hri:=HT.Iy A.in1 ⟨hp,g,d,tk,os⟩ a t c u prog w
      wp_walk using hri
      exact⟨_,rfl,by simpa using hR⟩
   |str a t hvi'=>
    cases hwi with
    |nil=>rw[NZ]at hz;cases hz
    |int c u hwi'=>cases hL
    |str c u hwi'=>
     rw[NY]at hz;injection hz with hyx hrest;injection hyx with hy hx;subst hy hx;have hL':(if a=c then eT _ _ else some (decide (a.cps.toList<c.cps.toList)))=some r:=hL;simp only[M6]at hlen;obtain⟨e,he,hiff⟩:=Fh A.in1 ⟨hp,g,d,tk,os⟩ a t c u;refine QD (he prog w _ _ ?_);cases e with
     |true=>
      rw[if_pos (hiff.mp rfl)]at hL'
      wp_walk
      exact⟨rfl,rfl,_,_,_,_,hrest,hvi',hwi',by omega,hL',hR⟩
     |false=>
      rw[if_neg (λq=>absurd (hiff.mpr q) MG)]at hL';cases hL';have hri:=IA A.in1 ⟨hp,g,d,tk,os⟩ a t c u prog w
      wp_walk using hri
      exact⟨_,rfl,by simpa using hR⟩
  case fin=>
   rintro⟨b1,b2⟩ s' ⟨hb',rfl,vs,ws,ns',ms',hz,hvi,hwi,hlen,hL,hR⟩;simp only at hb';subst hb';have hv:r=decide (items.size<items2.size):=by
    have l1:=hvi.length;have l2:=hwi.length;cases ns' with
    |nil=>
     cases ms' with
     |nil=>
      simp only[M7]at hlen;cases hL;exact(decide_eq_false ‹0›).symm
     |cons c u=>
      simp only[M7,M6]at hlen;cases hL;exact(decide_eq_true ‹0›).symm
    |cons a t=>
     cases ms' with
     |nil=>
      simp only[M7,M6]at hlen;cases hL;exact(decide_eq_false ‹0›).symm
     |cons c u=>
      have:=congrArg List.length hz
      simp only[M7,List.length_zip,l1,l2,M6]at this;omega
   rw[hv]at hR
   wp_walk
   exact⟨_,rfl,by simpa [Builtin.Tuple.tupleCompareSizes]using hR⟩
  case h=>
   exact⟨rfl,rfl,items.toList,items2.toList,ns,ms,rfl,hi,hj,by omega,hr,h⟩
end
section
variable{X:Cx}
theorem A9{α:Type}{c:Bool}{o:Option α}{a:α}(h:(if c then o else none)=some a):c=true/\o=some a:=by
 cases c with
 |true=>exact⟨rfl,h⟩
 |false=>cases h
theorem xF{prog:Qi}{w:Qh}{A:Qr}{E:Qg->Qs->Prop}{s:Qs}{l b:Qj}{items items2:Array Qg}{ns ms:List D}{r:Bool}{Q:Qg->Qs->Prop}(hl:Qn s.heap l items)(hb:Qn s.heap b items2)(hi:gb items.toList ns)(hj:gb items2.toList ms)(hr:eT ns ms=some r)
  (hu:A.units<QQ) (h:Q (.bool r) s):Qu (model prog w) A (QJ .Lt (.ref l) (.ref b)) Q E s:=by
 obtain⟨⟨cls,dd,data,sl⟩,ho,hc,n,hd⟩:=id hl;obtain⟨⟨cls2,dd2,data2,sl2⟩,ho2,hc2,n2,hd2⟩:=id hb;simp only at hc hd hc2 hd2;subst hc hd hc2 hd2;exact richCompare_meets_room (op:=.Lt) ⟨_,ho,rfl⟩ ⟨_,ho2,rfl⟩ PySem.F.slot_tuple_lt PySem.F.entry_tuple_lt (PySem.F.args_tuple_lt_2 _ _) (sI l b items items2 n n2 dd dd2 sl sl2 ns ms r hi hj hr)
  ⟨ho,ho2,show Value.bool r≠Value.notImplemented/\Q (.bool r) s from⟨(λx=>nomatch x),h⟩⟩ hu
def pV:List D->Bool
 |[]=>true
 |.int _::r=>pV r
 |.str _::r=>pV r
 |_=>false
theorem jM{K:OZ}{H:Hp}:∀{ds:List D}{vs:List V}{us:List Qg},pV ds=true->bh K H ds vs->Vals vs us->gb us ds
 |[],vs,us,_,h,r=>by
  rw[cU]at h;subst h;cases r;exact .nil
 |d::ds,vs,us,hf,h,r=>by
  obtain⟨v,r',e,h1,h2⟩:=bE.mp h;subst e;cases r with
  |cons q1 q2=>
   cases d with
   |int i=>
    rw[eZ]at h1;subst h1;obtain⟨t,rfl⟩:=q1;exact .int i t (jM hf h2 q2)
   |str x=>
    rw[e9]at h1;subst h1;obtain⟨t,rfl⟩:=q1;exact .str x t (jM hf h2 q2)
   |_=>cases hf
def qH(a b:D):Option D:=match a,b with
 |.int i,.int j=>some (.bl (decide (i<j)))
 |.str x,.str y=>some (.bl (decide (x.cps.toList<y.cps.toList)))
 |.tup xs,.tup ys=>if pV xs&&pV ys then(eT xs ys).bind λr=>some (.bl r)else none
 |_,_=>none
theorem pD(hu:X.A.units+64<QQ):kQ X (QJ .Lt) (rD X.K qH):=by
 intro pins s σ H x y u v Q I rx ry ⟨O,a,b,d,hO,ha,hb,hg,q⟩;cases a with
 |int i=>
  cases b with
  |int j=>
   cases hg;exact Jd pins s σ H x y u v Q I rx ry ⟨i,j,eZ.mp ha,eZ.mp hb,q _ H (bz.refl H) (kT.mpr rfl)⟩
  |_=>cases hg
 |str i=>
  cases b with
  |str j=>
   cases hg;exact AY pins s σ H x y u v Q I rx ry ⟨i,j,e9.mp ha,e9.mp hb,q _ H (bz.refl H) (kT.mpr rfl)⟩
  |_=>cases hg
 |tup xs=>
  cases b with
  |tup ys=>
   obtain⟨h1,h2⟩:=A9 hg;obtain⟨r,e1,e2⟩:=bind_some h2;cases e2;rw[MV]at h1;obtain⟨p,vs,ex,g1,g2⟩:=cD.mp ha;obtain⟨p',vs',ey,g1',g2'⟩:=cD.mp hb;subst ex ey;cases rx;cases ry;obtain⟨its,r1,t1,_⟩:=I.tuple (bZ (aI H O) g1);obtain⟨its2,r2,t2,_⟩:=I.tuple (bZ (aI H O) g1');exact xF t1 t2 (jM h1.1 g2 r1) (jM h1.2 g2' r2) e1 ‹0› (BR I (q _ H (bz.refl H) (kT.mpr rfl)) rfl)
  |_=>cases hg
 |_=>cases hg
end
end TG
namespace TG
open PySem PySem.Spec L2
variable[bc]
def jD(x:Str)(n:Int):Str:=if(n==1||x.length==0)=true then x else⟨(List.replicate n.toNat x.cps).foldl (·++·) #[]⟩
theorem foldl_size:∀(n:Nat)(c a:Array Nat),((List.replicate n c).foldl (·++·) a).size=a.size+n*c.size
 |0,_,a=>by simp
 |n+1,c,a=>by
  rw[N0,N1,foldl_size n c,Array.size_append,Nat.succ_mul];omega
theorem wU{x:Str}{n:Int}(h:1<=n):(jD x n).length=n.toNat*x.length:=by
 unfold jD;split
 ·rename_i q;rw[Nv]at q;rcases q with q|q
  ·have:n=1:=(by simpa using q);rw[this];simp
  ·have:x.length=0:=(by simpa using q);rw[this];simp
 ·show((List.replicate n.toNat x.cps).foldl (·++·) #[]).size=n.toNat*x.cps.size;rw[foldl_size];simp
def rJ(a b:D):Option D:=match a,b with
 |.int i,.int j=>nQ (.int i) (.int j)
 |.str x,.int n=>if decide (1<=n/\n<=1000/\x.length<=1000)then some (.str (jD x n))else none
 |_,_=>none
section
variable{X:Cx}
theorem nO:kQ X (QI .Mult) (rD X.K rJ):=by
 intro pins s σ H x y u v Q I rx ry ⟨O,a,b,d,hO,ha,hb,hg,q⟩;cases a with
 |int i=>
  cases b with
  |int j=>exact kr pins s σ H x y u v Q I rx ry (ko (.int i) (.int j) d x y O H Q hO hg ha hb q)
  |_=>cases hg
 |str z=>
  cases b with
  |int n=>
   obtain⟨h1,h2⟩:=bP hg;subst h2;obtain⟨n1,n2,zl⟩:=of_decide_eq_true h1;rw[e9]at ha;rw[eZ]at hb;subst ha hb;obtain⟨t,rfl⟩:=rx;obtain⟨t',rfl⟩:=ry;have zn:z.length*n.toNat<=1000*1000:=Nat.mul_le_mul zl ‹0›;refine P.mul_str (by rw[decide_eq_false ‹0›,decide_eq_false ‹0›];rfl) (λ_ _=>?_) (λ_ _=>?_) ?_
   ·have:(2^63-1:Int)/n>=(2^63-1)/1000:=by
     rw[ge_iff_le,Int.le_ediv_iff_mul_le ‹0›];have h3:(2^63-1:Int)/1000*n<=(2^63-1)/1000*1000:=Int.mul_le_mul_of_nonneg_left n2 (by decide);have h4:(2^63-1:Int)/1000*1000<=2^63-1:=(by decide);omega
    have h5:(2^63-1:Int)/1000=9223372036854775:=(by decide);omega
   ·unfold Builtin.Str.tooLong;rw[decide_eq_false];rw[QL];omega
   ·rw[if_neg ‹0›];have fin:∀tk,EP X pins σ Q (.str (jD z n) tk) {s with toks:=s.toks+1}/\EP X pins σ Q (.str (jD z n) tk) s:=λtk=>⟨⟨.str (jD z n),H,I.tok _,⟨_,rfl⟩,q _ H (bz.refl H) (e9.mpr rfl)⟩,⟨.str (jD z n),H,I,⟨_,rfl⟩,q _ H (bz.refl H) (e9.mpr rfl)⟩⟩
    by_cases e:(n==1||z.length==0)=true
    ·rw[if_pos e]
     have:jD z n=z:=(by unfold jD;rw[if_pos e]);rw[this]at fin;exact(fin t).2
    ·rw[if_neg e];have e2:jD z n=⟨(List.replicate n.toNat z.cps).foldl (·++·) #[]⟩:=(by unfold jD;rw[if_neg e]);rw[e2]at fin;refine⟨?_,(fin _).1⟩;have rl:=wU (x:=z) (n:=n) ‹0›;rw[e2]at rl;rw[rl,QL,Nat.mul_comm];omega
  |_=>cases hg
 |_=>cases hg
end
end TG
namespace TG
open PySem PySem.Spec PyProof.Rows PySem.W L2
variable[bc]
theorem rT:∀a:List Nat,¬a<a
 |[]=>N2 _
 |x::xs=>λh=>by
  rcases List.cons_lt_cons_iff.mp h with h|⟨_,h⟩
  ·omega
  ·exact rT xs h
theorem lM:∀{a b c:List Nat},a<b->b<c->a<c
 |_,_,[],_,h=>absurd h (N2 _)
 |_,[],_::_,h,_=>absurd h (N2 _)
 |[],_::_,_::_,_,_=>N3 _ _
 |x::xs,y::ys,z::zs,h,h'=>by
  rw[N4]at h h' ⊢;rcases h with h|⟨e,h⟩<;>rcases h' with h'|⟨e',h'⟩
  ·exact .inl ‹0›
  ·exact .inl ‹0›
  ·exact .inl ‹0›
  ·exact .inr ⟨by omega,lM h h'⟩
theorem CI:∀a b:List Nat,a<b\/a=b\/b<a
 |[],[]=>.inr (.inl rfl)
 |[],_::_=>.inl (N3 _ _)
 |_::_,[]=>.inr (.inr (N3 _ _))
 |x::xs,y::ys=>by
  rw[N4,N4];rcases Nat.lt_trichotomy x y with h|h|h
  ·exact .inl (.inl h)
  ·rcases CI xs ys with q|q|q
   ·exact .inl (.inr ⟨h,q⟩)
   ·exact .inr (.inl (by rw[h,q]))
   ·exact .inr (.inr (.inr ⟨h.symm,q⟩))
  ·exact .inr (.inr (.inl h))
theorem Ca{x y:Str}(h:x.cps.toList=y.cps.toList):x=y:=by
 cases x;cases y;congr 1;exact Array.toList_inj.mp h
inductive Sh:List Bool->List D->Prop where
 |nil:Sh [] []
 |int (i:Int) {bs:List Bool} {ds:List D} (h:Sh bs ds):Sh (true::bs) (.int i::ds)
 |str (x:Str) {bs:List Bool} {ds:List D} (h:Sh bs ds):Sh (false::bs) (.str x::ds)
theorem Sh.length:∀{σ:List Bool}{a:List D},Sh σ a->a.length=σ.length
 |_,_,.nil=>rfl
 |_,_,.int _ h=>by rw[M6,M6,h.length]
 |_,_,.str _ h=>by rw[M6,M6,h.length]
theorem qc:∀{σ:List Bool}{a:List D},Sh σ a->pV a=true
 |_,_,.nil=>rfl
 |_,_,.int i h=>by
  unfold pV;exact qc h
 |_,_,.str i h=>by
  unfold pV;exact qc h
theorem sf(i j:Int)(as bs:List D):eT (.int i::as) (.int j::bs)=if i=j then eT as bs else some (decide (i<j)):=by rw[eT]
theorem qF(x y:Str)(as bs:List D):eT (.str x::as) (.str y::bs)=if x=y then eT as bs else some (decide (x.cps.toList<y.cps.toList)):=by rw[eT]
theorem Bp:eT [] []=some false:=by rw[eT]
theorem lT:∀{σ:List Bool}{a:List D},Sh σ a->eT a a=some false
 |_,_,.nil=>Bp
 |_,_,.int i h=>by rw[sf,if_pos rfl];exact lT h
 |_,_,.str x h=>by rw[qF,if_pos rfl];exact lT h
theorem ml:∀{σ:List Bool}{a b:List D},Sh σ a->Sh σ b->(eT a b=some true/\eT b a=some false/\a≠b)\/a=b\/(eT b a=some true/\eT a b=some false/\a≠b)
 |_,_,_,.nil,.nil=>.inr (.inl rfl)
 |_,_,_,.int i h,.int j h'=>by
  rw[sf,sf];by_cases e:i=j
  ·subst e;rw[if_pos rfl,if_pos rfl];rcases ml h h' with⟨q1,q2,q3⟩|q|⟨q1,q2,q3⟩
   ·exact .inl ⟨q1,q2,λz=>q3 (by injection z)⟩
   ·exact .inr (.inl (by rw[q]))
   ·exact .inr (.inr ⟨q1,q2,λz=>q3 (by injection z)⟩)
  ·rw[if_neg e,if_neg (λz=>e z.symm)];rcases Int.lt_or_gt_of_ne e with q|q
   ·exact .inl ⟨by rw[decide_eq_true q],by rw[decide_eq_false ‹0›],λz=>e (by injection z with z1;injection z1)⟩
   ·exact .inr (.inr ⟨by rw[decide_eq_true q],by rw[decide_eq_false ‹0›],λz=>e (by injection z with z1;injection z1)⟩)
 |_,_,_,.str x h,.str y h'=>by
  rw[qF,qF];by_cases e:x=y
  ·subst e;rw[if_pos rfl,if_pos rfl];rcases ml h h' with⟨q1,q2,q3⟩|q|⟨q1,q2,q3⟩
   ·exact .inl ⟨q1,q2,λz=>q3 (by injection z)⟩
   ·exact .inr (.inl (by rw[q]))
   ·exact .inr (.inr ⟨q1,q2,λz=>q3 (by injection z)⟩)
  ·rw[if_neg e,if_neg (λz=>e z.symm)];rcases CI x.cps.toList y.cps.toList with q|q|q
   ·exact .inl ⟨by rw[decide_eq_true q],by rw[decide_eq_false λz=>rT _ (lM q z)],λz=>e (by injection z with z1;injection z1)⟩
   ·exact absurd (Ca q) e
   ·exact .inr (.inr ⟨by rw[decide_eq_true q],by rw[decide_eq_false λz=>rT _ (lM q z)],λz=>e (by injection z with z1;injection z1)⟩)
theorem lZ:∀{σ:List Bool}{a b c:List D},Sh σ a->Sh σ b->Sh σ c->eT a b=some true->eT b c=some true->eT a c=some true
 |_,_,_,_,.nil,.nil,.nil,h,_=>by rw[Bp]at h;cases h
 |_,_,_,_,.int i h,.int j h',.int k h'',q,q'=>by
  rw[sf]at q q' ⊢;by_cases e:i=j
  ·subst e;rw[if_pos rfl]at q;by_cases e':i=k
   ·subst e';rw[if_pos rfl]at q' ⊢;exact lZ h h' h'' q q'
   ·rw[if_neg e']at q' ⊢;exact q'
  ·rw[if_neg e]at q;have q1:=of_decide_eq_true (Option.some.inj q);by_cases e':j=k
   ·subst e';rw[if_neg e,decide_eq_true q1]
   ·rw[if_neg e']at q';have q2:=of_decide_eq_true (Option.some.inj q');rw[if_neg ‹0›,decide_eq_true ‹0›]
 |_,_,_,_,.str i h,.str j h',.str k h'',q,q'=>by
  rw[qF]at q q' ⊢;by_cases e:i=j
  ·subst e;rw[if_pos rfl]at q;by_cases e':i=k
   ·subst e';rw[if_pos rfl]at q' ⊢;exact lZ h h' h'' q q'
   ·rw[if_neg e']at q' ⊢;exact q'
  ·rw[if_neg e]at q;have q1:=of_decide_eq_true (Option.some.inj q);by_cases e':j=k
   ·subst e';rw[if_neg e,decide_eq_true q1]
   ·rw[if_neg e']at q';have q2:=of_decide_eq_true (Option.some.inj q');rw[if_neg (show¬i=k from λz=>by rw[z]at q1;exact rT _ (lM q1 q2)),decide_eq_true (lM q1 q2)]
theorem Cp{σ:List Bool}{a b:List D}(h:Sh σ a)(h':Sh σ b)(q:eT a b=some true):eT b a=some false:=by
 rcases ml h h' with⟨_,q2,_⟩|e|⟨_,q2,_⟩
 ·exact q2
 ·subst e;rw[lT h]at q;cases q
 ·rw[q2]at q;cases q
def kLt(a b:List D):Bool:=eT a b==some true
theorem Ed{a b:List D}:kLt a b=true↔eT a b=some true:=by unfold kLt;simp
section
variable{α:Type}
def Ay(key:α->List D)(x:α):List α->List α
 |[]=>[x]
 |y::ys=>if kLt (key x) (key y)then x::y::ys else y::Ay key x ys
def iV(key:α->List D):List α->List α
 |[]=>[]
 |x::xs=>Ay key x (iV key xs)
theorem oS(key:α->List D)(x:α):∀ys:List α,(Ay key x ys).Perm (x::ys)
 |[]=>.refl _
 |y::ys=>by
  unfold Ay;split
  ·exact .refl _
  ·exact(List.Perm.cons y (oS key x ys)).trans (.swap x y ys)
theorem fg(key:α->List D):∀xs:List α,(iV key xs).Perm xs
 |[]=>.refl _
 |x::xs=>(oS key x _).trans (.cons x (fg key xs))
def v9(key:α->List D)(xs:List α):Prop:=xs.Pairwise λx y=>eT (key x) (key y)=some true
theorem v7{key:α->List D}{σ:List Bool}{x:α}(hx:Sh σ (key x)):∀{ys:List α},(∀y∈ys,Sh σ (key y)/\key x≠key y)->v9 key ys->v9 key (Ay key x ys)
 |[],_,_=>N5 _ _
 |y::ys,h,p=>by
  have p':=List.pairwise_cons.mp p;obtain⟨hy,ne⟩:=h y Mv;unfold Ay;split
  ·rename_i q;have q:=Ed.mp q;refine List.pairwise_cons.mpr ⟨λz hz=>?_,p⟩;rcases List.mem_cons.mp hz with rfl|hz
   ·exact q
   ·exact lZ hx hy (h z (Mw _ hz)).1 q (p'.1 z hz)
  ·rename_i q;have q:eT (key y) (key x)=some true:=by
    rcases ml hx hy with⟨z,_⟩|z|⟨z,_⟩
    ·exact absurd (Ed.mpr z) q
    ·exact absurd z ne
    ·exact z
   refine List.pairwise_cons.mpr ⟨λz hz=>?_,v7 hx (λz hz=>h z (Mw _ hz)) p'.2⟩;rcases List.mem_cons.mp ((oS key x ys).mem_iff.mp hz)with rfl|hz
   ·exact q
   ·exact p'.1 z hz
theorem mF{key:α->List D}{σ:List Bool}:∀{xs:List α},(∀x∈xs,Sh σ (key x))->xs.Pairwise (λx y=>key x≠key y)->v9 key (iV key xs)
 |[],_,_=>List.Pairwise.nil
 |x::xs,h,p=>by
  have p':=List.pairwise_cons.mp p;refine v7 (h x Mv) (λy hy=>?_) (mF (λy hy=>h y (Mw _ hy)) p'.2);have hy:=(fg key xs).mem_iff.mp hy;exact⟨h y (Mw _ hy),p'.1 y hy⟩
theorem zJ{key:α->List D}{σ:List Bool}:∀{xs ys:List α},(∀x∈xs,Sh σ (key x))->v9 key xs->v9 key ys->xs.Perm ys->xs=ys
 |[],ys,_,_,_,e=>(List.perm_nil.mp e.symm).symm
 |x::xs,[],_,_,_,e=>List.perm_nil.mp e
 |x::xs,y::ys,h,p,q,e=>by
  have p':=List.pairwise_cons.mp p;have q':=List.pairwise_cons.mp q;have exy:x=y:=by
   rcases List.mem_cons.mp (e.mem_iff.mp Mv)with z|z
   ·exact z
   ·have w1:=q'.1 x z;rcases List.mem_cons.mp (e.symm.mem_iff.mp Mv)with z'|z'
    ·exact z'.symm
    ·have w2:=p'.1 y z'
     have:=Cp (h x Mv) (h y (Mw _ z')) w2
     rw[w1]at this;cases this
  subst exy;rw[zJ (λz hz=>h z (Mw _ hz)) p'.2 q'.2 (List.Perm.cons_inv e)]
theorem nM{key:α->List D}{σ:List Bool}{xs ys:List α}(h:∀x∈xs,Sh σ (key x))(p:xs.Pairwise λx y=>key x≠key y)(q:v9 key ys)(e:ys.Perm xs):iV key xs=ys:=
 zJ (λx hx=>h x ((fg key xs).mem_iff.mp hx)) (mF h p) q ((fg key xs).trans e.symm)
def rank(ks:List (List D))(i:Nat):Nat:=(ks.filter λk=>kLt k (ks.getD i [])).length
theorem qy{ks:List (List D)}{σ:List Bool}(h:∀k∈ks,Sh σ k){i j:Nat}(hi:i<ks.length)(hj:j<ks.length):decide (rank ks i<rank ks j)=kLt (ks.getD i []) (ks.getD j []):=by
 have gi:ks.getD i []=ks[i]:=by simp[hi]
 have gj:ks.getD j []=ks[j]:=by simp[hj]
 have mono:∀a b:List D,Sh σ a->Sh σ b->eT a b=some true->∀l:List (List D),(∀k∈l,Sh σ k)->(l.filter λk=>kLt k a).length<=(l.filter λk=>kLt k b).length/\(a∈l->(l.filter λk=>kLt k a).length<(l.filter λk=>kLt k b).length):=by
  intro a b ha hb hab l
  induction l with
  |nil=>exact λ_=>⟨MC _,λz=>nomatch z⟩
  |cons k l ih=>
   intro hl;obtain⟨i1,i2⟩:=ih λz hz=>hl z (Mw _ hz);have hk:=hl k Mv;by_cases q:kLt k a=true
   ·have q':kLt k b=true:=Ed.mpr (lZ hk ha hb (Ed.mp q) hab);rw[N6 (p:=λk=>kLt k a) q,N6 (p:=λk=>kLt k b) q',M6,M6];refine⟨by omega,λz=>?_⟩;rcases List.mem_cons.mp z with rfl|z
    ·rw[Ed,lT ha]at q;cases q
    ·have:=i2 z;omega
   ·rw[N7 (p:=λk=>kLt k a) q];by_cases q':kLt k b=true
    ·rw[N6 (p:=λk=>kLt k b) q',M6];exact⟨by omega,λ_=>by omega⟩
    ·rw[N7 (p:=λk=>kLt k b) q'];refine⟨i1,λz=>?_⟩;rcases List.mem_cons.mp z with rfl|z
     ·exact absurd (Ed.mpr hab) q'
     ·exact i2 z
 unfold rank;rw[gi,gj];have hi':=h _ (N8 hi);have hj':=h _ (N8 hj);rcases ml hi' hj' with⟨z,_⟩|z|⟨z,z',_⟩
 ·rw[Ed.mpr z];exact decide_eq_true ((mono _ _ hi' hj' z ks h).2 (N8 hi))
 ·rw[z]
  have:kLt ks[j] ks[j]=false:=by unfold kLt;rw[lT hj'];rfl
  rw[this];exact decide_eq_false (Mp _)
 ·have e:kLt ks[i] ks[j]=false:=by unfold kLt;rw[z'];rfl
  rw[e];exact decide_eq_false (Nat.not_lt.mpr (mono _ _ hj' hi' z ks h).1)
end
section
variable{cmp:Nat->Nat->(Bool->Qs->Prop)->Qs->Prop}{r:Nat->Nat}{N:Nat}
def lm(cmp:Nat->Nat->(Bool->Qs->Prop)->Qs->Prop)(r:Nat->Nat)(N:Nat)(s:Qs):Prop:=∀(i j:Nat)(C:Bool->Qs->Prop),i<N->j<N->C (decide (r i<r j)) s->cmp i j C s
def PM(N:Nat)(p:Array Nat):Prop:=p.Perm (List.toArray (List.range N))
theorem PM.size{p:Array Nat}(h:PM N p):p.size=N:=by
 have:=h.size_eq;simpa using this
theorem PM.lt{p:Array Nat}(h:PM N p){i:Nat}(hi:i<N):p.getD i 0<N:=by
 have hs:=h.size;have e:p.getD i 0=p[i]'‹0›:=by simp[Array.getD,hs,hi]
 rw[e];have m:p[i]'‹0›∈p:=Array.getElem_mem _
 have:=(h.mem_iff (a:=p[i]'‹0›)).mp m
 simpa using this
theorem PM.rev{p:Array Nat}(h:PM N p)(i j:Nat):PM N (kas_rev p i j):=(mirror_perm p i j _).trans h
abbrev Rk(r:Nat->Nat)(p:Array Nat)(i:Nat):Nat:=r (p.getD i 0)
theorem vt{p:Array Nat}{i j:Nat}(hj:j<=p.size)(k:Nat):Rk r (kas_rev p i j) k=if i<=k/\k<j then Rk r p (i+j-1-k)else Rk r p k:=by
 have e:=getElem?_mirror_all (xs:=p) (i:=i) (j:=j) hj k;have g:∀(q:Array Nat)(k:Nat),q.getD k 0=(q[k]?).getD 0:=λq k=>by simp
 show r ((kas_rev p i j).getD k 0)=_;rw[g];show r (((mirror p i j ((j-i)/2))[k]?).getD 0)=_;rw[e];split
 ·show _=r (p.getD _ 0);rw[g]
 ·show _=r (p.getD _ 0);rw[g]
theorem BI{p:Array Nat}{src d:Nat}(hs:src<p.size)(hd:d<=src)(k:Nat):Rk r (bubble p src d) k=if k=src-d then Rk r p src else if src-d<k/\k<=src then Rk r p (k-1)else Rk r p k:=by
 have e:=getElem?_bubble (xs:=p) hs d hd k;have g:∀(q:Array Nat)(k:Nat),q.getD k 0=(q[k]?).getD 0:=λq k=>by simp
 show r ((bubble p src d).getD k 0)=_;rw[g,e];split
 ·show _=r (p.getD _ 0);rw[g]
 ·split
  ·show _=r (p.getD _ 0);rw[g]
  ·show _=r (p.getD _ 0);rw[g]
def Up(r:Nat->Nat)(p:Array Nat)(k:Nat):Prop:=∀i j,i<=j->j<k->Rk r p i<=Rk r p j
def Dn(r:Nat->Nat)(p:Array Nat)(k:Nat):Prop:=∀i j,i<=j->j<k->Rk r p j<=Rk r p i
variable{s:Qs}
theorem xK(hc:lm cmp r N s){p:Array Nat}(hp:PM N p){G:Nat->Qs->Prop}:∀(f n:Nat),1<=n->n+f<=N->Up r p n->(∀m,n<=m->m<=n+f->Up r p m->(m=n+f\/Rk r p m<Rk r p (m-1))->G m s)->(kas_asc p f n).kasWp cmp G s
 |0,n,_,_,u,h=>h n (MC _) (MC _) u (.inl rfl)
 |f+1,n,h1,h2,u,h=>by
  refine hc _ _ _ (hp.lt ‹0›) (hp.lt ‹0›) ?_;by_cases q:Rk r p n<Rk r p (n-1)
  ·rw[decide_eq_true q];dsimp only;rw[if_pos rfl];exact h n (MC _) ‹0› u (.inr q)
  ·rw[decide_eq_false q];dsimp only;rw[if_neg MG];refine xK hc hp f (n+1) ‹0› ‹0› (λi j hij hj=>?_) λm a b=>?_
   ·by_cases hjn:j<n
    ·exact u i j hij hjn
    ·have ej:j=n:=(by omega);subst ej;by_cases ei:i=j
     ·subst ei;exact MC _
     ·have:=u i (j-1) ‹0› ‹0›
      omega
   ·intro um hm;exact h m ‹0› ‹0› um (by rcases hm with z|z;exact .inl ‹0›;exact .inr z)
theorem BJ{p:Array Nat}{n q:Nat}(hn:n<=p.size)(hq:q+1<=n)(he:∀i,n-(q+1)<=i->i<n->Rk r p i=Rk r p (n-1))(k:Nat):Rk r (kas_rev p (n-(q+1)) n) k=Rk r p k:=by
 rw[vt hn];split
 ·rename_i h;rw[he _ ‹0› ‹0›,he k h.1 h.2]
 ·rfl
theorem qp(hc:lm cmp r N s){G:Array Nat×Nat×Nat->Qs->Prop}:∀(f:Nat)(p:Array Nat)(n q:Nat),PM N p->1<=n->n+f<=N->Dn r p n->q+1<=n->(∀i,n-(q+1)<=i->i<n->Rk r p i=Rk r p (n-1))->
  (∀p' m q',PM N p'->n<=m->m<=n+f->Dn r p' m->q'+1<=m->(∀i,m-(q'+1)<=i->i<m->Rk r p' i=Rk r p' (m-1))->G (p',m,q') s)->(kas_desc f p n q).kasWp cmp G s
 |0,p,n,q,hp,_,_,d,hq,he,h=>h p n q hp (MC _) (MC _) d hq he
 |f+1,p,n,q,hp,h1,h2,d,hq,he,h=>by
  have hs:=hp.size;have step:∀p',(∀k,Rk r p' k=Rk r p k)->Rk r p n<=Rk r p (n-1)->Dn r p' (n+1):=λp' hk hl i j hij hj=>by
   rw[hk,hk];by_cases hjn:j<n
   ·exact d i j hij hjn
   ·have ej:j=n:=(by omega);subst ej;by_cases ei:i=j
    ·subst ei;exact MC _
    ·have:=d i (j-1) ‹0› ‹0›
     omega
  refine hc _ _ _ (hp.lt ‹0›) (hp.lt ‹0›) ?_;by_cases q1:Rk r p n<Rk r p (n-1)
  ·rw[decide_eq_true q1];dsimp only;rw[if_pos rfl];by_cases hq0:q>0
   ·rw[if_pos hq0];refine qp hc f _ (n+1) 0 (hp.rev _ _) ‹0› ‹0› (step _ (BJ ‹0› hq he) ‹0›) ‹0› (λi a b=>by rw[show i=n+1-1 by omega]) λp' m q' a b c=>h p' m q' a ‹0› ‹0›
   ·rw[if_neg hq0];refine qp hc f _ (n+1) 0 hp ‹0› ‹0› (step _ (λ_=>rfl) ‹0›) ‹0› (λi a b=>by rw[show i=n+1-1 by omega]) λp' m q' a b c=>h p' m q' a ‹0› ‹0›
  ·rw[decide_eq_false q1];dsimp only;rw[if_neg MG];refine hc _ _ _ (hp.lt ‹0›) (hp.lt ‹0›) ?_;by_cases q2:Rk r p (n-1)<Rk r p n
   ·rw[decide_eq_true q2];dsimp only;rw[if_pos rfl];exact h p n q hp (MC _) ‹0› d hq he
   ·rw[decide_eq_false q2];dsimp only;rw[if_neg MG];refine qp hc f _ (n+1) (q+1) hp ‹0› ‹0› (step _ (λ_=>rfl) ‹0›) ‹0› (λi a b=>?_) λp' m q' a b c=>h p' m q' a ‹0› ‹0›;rw[show n+1-1=n by omega];by_cases ei:i=n
    ·subst ei;rfl
    ·have:=he i ‹0› ‹0›
     omega
theorem wc(hc:lm cmp r N s){p:Array Nat}(hp:PM N p){n:Nat}(h1:1<=n)(hn:n<=N)(d:Dn r p n){G:Nat×Array Nat->Qs->Prop}(h:∀m p',PM N p'->1<=m->m<=N->Up r p' m->G (m,p') s):(kas_tail3 n N p).kasWp cmp G s:=by
 unfold kas_tail3;rw[KasT.kasWp_bind];have hs:=hp.size;refine xK hc (hp.rev 0 n) _ _ h1 ‹0› (λi j hij hj=>?_) λm a b u _=>h m _ (hp.rev 0 n) ‹0› ‹0› u;rw[vt ‹0›,vt ‹0›,if_pos ‹0›,if_pos ‹0›];exact d _ _ ‹0› ‹0›
theorem pT(hc:lm cmp r N s){p:Array Nat}(hp:PM N p){n:Nat}(hn:n+1<=N)(d:Dn r p (n+1)){G:Nat×Array Nat->Qs->Prop}(h:∀m p',PM N p'->1<=m->m<=N->Up r p' m->G (m,p') s):(kas_descPart n N p).kasWp cmp G s:=by
 unfold kas_descPart;rw[KasT.kasWp_bind];refine qp hc _ _ _ _ hp ‹0› ‹0› d ‹0› (λi a b=>by rw[show i=n+1-1 by omega]) λp' m q' hp' a b d' hq he=>?_;have hs:=hp'.size;dsimp only;by_cases hq0:q'>0
 ·rw[if_pos hq0];refine wc hc (hp'.rev _ _) ‹0› ‹0› (λi j hij hj=>?_) h;rw[BJ ‹0› hq he,BJ ‹0› hq he];exact d' i j hij hj
 ·rw[if_neg hq0];exact wc hc hp' ‹0› ‹0› d' h
theorem C1(hc:lm cmp r N s)(h1:1<=N){p:Array Nat}(hp:PM N p){G:Nat×Array Nat->Qs->Prop}(h:∀m p',PM N p'->1<=m->m<=N->Up r p' m->G (m,p') s):(kas_count N p).kasWp cmp G s:=by
 unfold kas_count;rw[KasT.kasWp_bind];have hs:=hp.size;refine xK hc hp _ _ (MC _) ‹0› (λi j hij hj=>by rw[show i=j by omega];exact MC _) λn a b u hor=>?_;by_cases hn:n=N
 ·rw[if_pos (by simpa using hn)];exact h n p hp a ‹0› u
 ·rw[if_neg (by simpa using hn)];have hlt:Rk r p n<Rk r p (n-1):=by
   rcases hor with z|z
   ·omega
   ·exact z
  by_cases hg:n>1
  ·rw[if_pos hg];refine hc _ _ _ (hp.lt ‹0›) (hp.lt ‹0›) ?_;by_cases q:Rk r p 0<Rk r p (n-1)
   ·rw[decide_eq_true q];dsimp only;rw[if_pos rfl];exact h n p hp a ‹0› u
   ·rw[decide_eq_false q];dsimp only;rw[if_neg MG];have hall:∀k,k<n->Rk r p k=Rk r p (n-1):=λk hk=>by
     have a1:=u 0 k ‹0› hk;have a2:=u k (n-1) ‹0› ‹0›;omega
    have hr:∀k,Rk r (kas_rev p 0 n) k=Rk r p k:=λk=>by
     rw[vt ‹0›];split
     ·rename_i z;rw[hall _ ‹0›,hall k z.2]
     ·rfl
    refine pT hc (hp.rev _ _) ‹0› (λi j hij hj=>?_) h;rw[hr,hr];by_cases hjn:j<n
    ·rw[hall i ‹0›,hall j hjn];exact MC _
    ·have ej:j=n:=(by omega);subst ej;by_cases ei:i=j
     ·subst ei;exact MC _
     ·rw[hall i ‹0›];omega
  ·rw[if_neg hg];have en:n=1:=(by omega);subst en;refine pT hc hp ‹0› (λi j hij hj=>?_) h;by_cases ei:i=j
   ·subst ei;exact MC _
   ·have e0:i=0:=(by omega);have e1:j=1:=(by omega);subst e0 e1;exact Ms hlt
theorem qE(hc:lm cmp r N s){p:Array Nat}(hp:PM N p){k:Nat}(hk:k<N)(u:Up r p k){G:Nat->Qs->Prop}(h:∀l,l<=k->(∀i,i<l->Rk r p i<=Rk r p k)->(∀i,l<=i->i<k->Rk r p k<Rk r p i)->G l s):
  ∀(f l t:Nat),t-l<=f->l<=t->t<=k->(∀i,i<l->Rk r p i<=Rk r p k)->(∀i,t<=i->i<k->Rk r p k<Rk r p i)->(kas_place p k f l t).kasWp cmp G s
 |0,l,t,a,b,c,d,e=>h l ‹0› d λi x y=>e i ‹0› y
 |f+1,l,t,a,b,c,d,e=>by
  unfold kas_place;by_cases hl:l>=t
  ·rw[if_pos hl];exact h l ‹0› d λi x y=>e i ‹0› y
  ·rw[if_neg hl];refine hc _ _ _ (hp.lt hk) (hp.lt ‹0›) ?_;by_cases q:Rk r p k<Rk r p ((l+t)/2)
   ·rw[decide_eq_true q];dsimp only;rw[if_pos rfl];refine qE hc hp hk u h f l ((l+t)/2) ‹0› ‹0› ‹0› d λi x y=>?_
    have:=u ((l+t)/2) i x y
    omega
   ·rw[decide_eq_false q];dsimp only;rw[if_neg MG];refine qE hc hp hk u h f ((l+t)/2+1) t ‹0› ‹0› ‹0› (λi x=>?_) e
    have:=u i ((l+t)/2) ‹0› ‹0›
    omega
theorem Ce(hc:lm cmp r N s){G:Array Nat->Qs->Prop}(h:∀p,PM N p->Up r p N->G p s):∀(f:Nat)(p:Array Nat)(k:Nat),PM N p->k+f=N->Up r p k->(kas_bin f p k).kasWp cmp G s
 |0,p,k,hp,e,u=>h p hp (by rw[<-e];exact u)
 |f+1,p,k,hp,e,u=>by
  unfold kas_bin;rw[KasT.kasWp_bind];have hs:=hp.size;refine qE hc hp ‹0› u (λl hl d e'=>?_) k 0 k ‹0› (MI _) (MC _) (λi x=>by omega) λi x y=>by omega
  refine Ce hc h f _ (k+1) ((bubble_perm p k _).trans hp) ‹0› λi j hij hj=>?_;rw[BI ‹0› ‹0›,BI ‹0› ‹0›,show k-(k-l)=l by omega];have U:=u;by_cases i1:i=l
  ·rw[if_pos i1];by_cases j1:j=l
   ·rw[if_pos j1];exact MC _
   ·rw[if_neg j1,if_pos ‹0›];exact Ms (e' (j-1) ‹0› ‹0›)
  ·rw[if_neg i1];by_cases i2:l<i/\i<=k
   ·rw[if_pos i2,if_neg ‹0›,if_pos ‹0›];exact U _ _ ‹0› ‹0›
   ·rw[if_neg i2];by_cases j1:j=l
    ·rw[if_pos j1];exact d i ‹0›
    ·rw[if_neg j1];by_cases j2:l<j/\j<=k
     ·rw[if_pos j2];exact U _ _ ‹0› ‹0›
     ·rw[if_neg j2];exact U _ _ hij ‹0›
theorem yT(hc:lm cmp r N s)(h2:1<=N){G:Array Nat->Qs->Prop}(h:∀p,PM N p->Up r p N->G p s):(kas_sort N).kasWp cmp G s:=by
 unfold kas_sort;rw[KasT.kasWp_bind];refine C1 hc h2 (Array.Perm.refl _) λm p' hp a b u=>?_;dsimp only;by_cases hm:m<N
 ·rw[if_pos hm,show max m 1=m by omega];exact Ce hc h _ p' m hp ‹0› u
 ·rw[if_neg hm];exact h p' hp (by rw[show N=m by omega];exact u)
end
section
variable{prog:Qi}{w:Qh}{A:Qr}{E:Qg->Qs->Prop}{s:Qs}
theorem sq{a:Qj}{vs:List Qg}{n:Nat}{P:PySem.Fin->Qs->Prop}{κ:Rv}{r:Nat->Nat}(ho:s.heap.get? a=some (seqObj "list" vs.toArray n))(h64:vs.length<64)
  (hk:2<=vs.length->∀h':Ql,(∀b o,b≠a->s.heap.get? b=some o->h'.get? b=some o)->∀(Q:Rv->Qs->Prop),Q κ {s with heap:=h'}->Qu (model prog w) A (keyKind' vs.toArray) Q E {s with heap:=h'})
  (hr:2<=vs.length->∀h':Ql,(∀b o,b≠a->s.heap.get? b=some o->h'.get? b=some o)->lm (Rx prog w A κ vs) r vs.length {s with heap:=h'})
  (h:∀p:Array Nat,PM vs.length p->Up r p vs.length->P (.done (.ret .none)) {s with heap:=sortedHeap s.heap a vs (List.toArray (p.toList.map λi=>vs.getD i Value.none))}):
  Qu (model prog w) A (Builtin.«list.sort» ⟨[.ref a],[]⟩) P E s:=by
 rw[list_sort_plain];have ha:a<s.heap.objs.size:=PD ho;refine QD (listItems_at ho rfl ?_);refine QD (Ry ho rfl ?_ (by rw[MF,QL];omega) (MI _));obtain⟨e1,ho1⟩:∃e1,(s.heap.update a (Obj.mapSeq λ_=>(#[]:Array Qg))).get? a=some (seqObj "list" #[] e1):=⟨_,Rz ho (λ_=>#[])⟩
 refine QD (RA ho1 rfl ?_);refine QD (Rr ?_ (by show vs.length<=_;rw[QL];omega));refine QD (RB ?_ (MI _));refine Q1 ?_;have ho6:(((s.heap.update a (Obj.mapSeq λ_=>(#[]:Array Qg))).push (seqObj "tuple" vs.toArray 0)).push (seqObj "list" #[] 0)).get? a=some (seqObj "list" #[] e1):=by
  rw[PP _ _ _ (by rw[size_push',PQ];exact Mq (Nh ha)),PP _ _ _ (by rw[PQ];exact Mq ha)];exact ho1
 have kept:∀b o,b≠a->s.heap.get? b=some o->(((s.heap.update a (Obj.mapSeq λ_=>(#[]:Array Qg))).push (seqObj "tuple" vs.toArray 0)).push (seqObj "list" #[] 0)).get? b=some o:=λb o hb e=>
  PJ _ (PJ _ (by rw[PR _ _ _ _ hb];exact e))
 show Qu (model prog w) A _ P E {s with heap:=((s.heap.update a (Obj.mapSeq λ_=>(#[]:Array Qg))).push (seqObj "tuple" vs.toArray 0)).push (seqObj "list" #[] 0)};dsimp only;have hsz:vs.toArray.size=vs.length:=by simp
 by_cases h2:vs.toArray.size<2
 ·rw[if_pos h2,if_pos h2];refine QD (QC ?_);rw[StateT.run_pure];refine QD (QC ?_);dsimp only;refine QD (RA ho6 rfl ?_);have hout:(arrOf (SortSt.mk' general' (vs.toArray.zip vs.toArray) #[] 7 none)).map (·.2)=List.toArray ((List.toArray (List.range vs.length)).toList.map λi=>vs.getD i Value.none):=by
   refine kat_snds rfl ?_;show vs.toArray.zip vs.toArray=_;have e:=kas_range (vs.toArray.zip vs.toArray);rw[show(vs.toArray.zip vs.toArray).size=vs.length by simp]at e;exact e.symm
  rw[hout];refine QD (Ry ho6 rfl ?_ (MI _) (by rw[MF,MS,QL];simp;omega));simp only[bne_self_eq_false,Ng,if_false];refine QC (h _ (Array.Perm.refl _) λi j hij hj=>?_)
  have:i=j:=by omega
  subst this;exact MC _
 ·rw[if_neg h2,if_neg h2];have h2':2<=vs.length:=by omega
  refine QD (hk h2' _ kept _ ?_);refine QD (Qy (kat_run (Q:=λst' s'=>∃p:Array Nat,arrOf st'=p.map (kas_item (vs.toArray.zip vs.toArray))/\failedOf st'=none/\PM vs.length p/\Up r p vs.length/\s'={s with heap:=((s.heap.update a (Obj.mapSeq λ_=>(#[]:Array Qg))).push (seqObj "tuple" vs.toArray 0)).push (seqObj "list" #[] 0)})
   (G:=λp s'=>PM vs.length p/\Up r p vs.length/\s'={s with heap:=((s.heap.update a (Obj.mapSeq λ_=>(#[]:Array Qg))).push (seqObj "tuple" vs.toArray 0)).push (seqObj "list" #[] 0)})
   rfl h2' h64 (λp' st' s' a1 a2 a3 a4=>⟨p',a2,a3,a4.1,a4.2.1,a4.2.2⟩) (yT (hr h2' _ kept) ‹0› λp hp hu=>⟨hp,hu,rfl⟩)) ?_ λ_ _ e=>e)
  rintro⟨⟨⟩,st'⟩ s' ⟨p,har,hf,hp,hu,rfl⟩;dsimp only;refine QD (RA ho6 rfl ?_);have hout:=kat_snds rfl har;rw[hout];refine QD (Ry ho6 rfl ?_ (MI _) (by rw[MF,MS,Array.length_toList,hp.size,QL];omega));rw[hf];simp only[bne_self_eq_false,Ng,if_false];exact QC (h p hp hu)
theorem rP{src:Qg}{vs:List Qg}{Q:Qg->Qs->Prop}{κ:Rv}{r:Nat->Nat}(h64:vs.length<64)
  (hcol:∀(Q':List Qg->Qs->Prop),(∀h' tk,(∀b o,s.heap.get? b=some o->h'.get? b=some o)->Q' vs {s with heap:=h',toks:=tk})->Qu (model prog w) A.in1 (collect src) Q' E s)
  (hk:2<=vs.length->∀(h':Ql)(tk:Nat),(∀b o,s.heap.get? b=some o->h'.get? b=some o)->∀(Q:Rv->Qs->Prop),Q κ {s with heap:=h',toks:=tk}->Qu (model prog w) A.in1.in1 (keyKind' vs.toArray) Q E {s with heap:=h',toks:=tk})
  (hr:2<=vs.length->∀(h':Ql)(tk:Nat),(∀b o,s.heap.get? b=some o->h'.get? b=some o)->lm (Rx prog w A.in1.in1 κ vs) r vs.length {s with heap:=h',toks:=tk})
  (h:∀(p:Array Nat)(h1 h':Ql)(l:Qj)(e tk:Nat),PM vs.length p->Up r p vs.length->(∀b o,s.heap.get? b=some o->h1.get? b=some o)->(∀b o,h1.get? b=some o->h'.get? b=some o)->h1.objs.size<=l->h'.get? l=some (seqObj "list" (List.toArray (p.toList.map λi=>vs.getD i Value.none)) e)->Q (.ref l) {s with heap:=h',toks:=tk}):
  Qu (model prog w) A (call (.builtin "sorted") [src]) Q E s:=by
 refine Calls.call_function_entry kind_sorted plain_sorted entry_sorted (args_sorted1 _) ?_;unfold Builtin.«sorted»;refine QD (m:=checkCount "sorted" 1 1 _) (QC ?_);refine QD (hcol _ λh1 tk k1=>?_);refine QD (RB ?_ (by rw[QL];omega));have hoL:(h1.push (seqObj "list" vs.toArray 0)).get? h1.objs.size=some (seqObj "list" vs.toArray 0):=PK _ rfl;have k2:∀b o,s.heap.get? b=some o->(h1.push (seqObj "list" vs.toArray 0)).get? b=some o:=λb o e=>PJ _ (k1 b o e);have ne:∀b o,s.heap.get? b=some o->b≠h1.objs.size:=λb o e=>Mq (PD (k1 b o e));refine QD (Q1 (Q3 slot_list_sort ⟨_,hoL,rfl⟩ entry_list_sort (sq (s:={s with heap:=h1.push (seqObj "list" vs.toArray 0),toks:=tk}) (r:=r) (κ:=κ) hoL h64
  (λh2 h' k=>hk h2 h' tk λb o e=>k b o (ne b o e) (k2 b o e)) (λh2 h' k=>hr h2 h' tk λb o e=>k b o (ne b o e) (k2 b o e)) λp hp hu=>⟨_,rfl,?_⟩) (args_list_sort _)))
 refine QC ⟨_,rfl,?_⟩;obtain⟨e,he⟩:=sortedHeap_at (vs:=vs) (out:=List.toArray (p.toList.map λi=>vs.getD i Value.none)) hoL;exact h p h1 _ h1.objs.size e tk hp hu k1 (λb o q=>by rw[sortedHeap_old (Mq (PD q)) (by rw[size_push'];exact Nh (PD q))];exact PJ _ q) (MC _) he
end
def d7:D->List D
 |.tup ks=>ks
 |_=>[]
def oneOf(d:D):List D:=[d]
def Gx(xs:List D):Prop:=xs.length<64/\∃σ:List Bool,σ≠[]/\(∀x∈xs,∃k,x=.tup k/\Sh σ k)/\xs.Pairwise λx y=>d7 x≠d7 y
def Iu(xs:List D):Prop:=xs.length<64/\∃b:Bool,(∀x∈xs,Sh [b] [x])/\xs.Pairwise λx y=>oneOf x≠oneOf y
open Classical in
noncomputable def pS(xs:List D):Option D:=if Gx xs then some (.lst (iV d7 xs))else if Iu xs then some (.lst (iV oneOf xs))else none
noncomputable def eW:List D->Option D
 |[.lst xs]=>pS xs
 |[.tup xs]=>pS xs
 |_=>none
theorem je{prog:Qi}{w:Qh}{A:Qr}{s:Qs}{Q:Bool->Qs->Prop}{fin:Bool}(hf:fin=false):∀{σ:List Bool}{ns ms:List D}{xs ys:List Qg}{i:Nat},Sh σ ns->Sh σ ms->gb xs ns->gb ys ms->Q (kLt ns ms) s->KatLex prog w A true fin Q (xs.zip ys) i s
 |_,_,_,_,_,i,.nil,.nil,.nil,.nil,h=>by
  subst hf;exact kat_nil (by simpa [kLt,eT]using h)
 |_,_,_,_,_,i,.int a h1,.int c h2,.int _ t f1,.int _ u f2,h=>by
  rw[NY];obtain⟨e,he,hiff⟩:=Fc A s a t c u;refine kat_cons (he prog w _ _ ?_);cases e with
  |true=>
   have ac:=hiff.mp rfl;refine kat_yes (je hf h1 h2 f1 f2 ?_);unfold kLt at h ⊢;rw[sf,if_pos ac]at h;exact h
  |false=>
   have ac:¬a=c:=λq=>absurd (hiff.mpr q) MG;have h':Q (decide (a<c)) s:=by
    unfold kLt at h;rw[sf,if_neg ac]at h;cases hd:decide (a<c)<;>rw[hd]at h<;>exact h
   refine kat_no ?_;cases hi:(i==0)with
   |true=>exact oneLt_int h'
   |false=>exact kat_one _ _ (PySem.P.lt_int (show Pr Q (.bool _) s from h'))
 |_,_,_,_,_,i,.str a h1,.str c h2,.str _ t f1,.str _ u f2,h=>by
  rw[NY];obtain⟨e,he,hiff⟩:=Fh A s a t c u;refine kat_cons (he prog w _ _ ?_);cases e with
  |true=>
   have ac:=hiff.mp rfl;refine kat_yes (je hf h1 h2 f1 f2 ?_);unfold kLt at h ⊢;rw[qF,if_pos ac]at h;exact h
  |false=>
   have ac:¬a=c:=λq=>absurd (hiff.mpr q) MG;have h':Q (decide (a.cps.toList<c.cps.toList)) s:=by
    unfold kLt at h;rw[qF,if_neg ac]at h;cases hd:decide (a.cps.toList<c.cps.toList)<;>rw[hd]at h<;>exact h
   refine kat_no ?_;cases hi:(i==0)with
   |true=>exact oneLt_str h'
   |false=>exact kat_one _ _ (PySem.P.lt_str (show Pr Q (.bool _) s from h'))
theorem nq{h:Ql}{PT:Qg->Prop}:∀{its:List Qg},(∀v∈its,∃a o xs n f,v=.ref a/\h.get? a=some o/\o.cls=.type "tuple"/\o.data=.seq xs n/\xs[0]?=some f/\PT f)->∃fs,KatTups h its fs/\fs.length=its.length/\∀f∈fs,PT f
 |[],_=>⟨[],.nil,rfl,λ_ h=>nomatch h⟩
 |v::its,hh=>by
  obtain⟨a,o,xs,n,f,rfl,h1,h2,h3,h4,h5⟩:=hh v Mv;obtain⟨fs,k1,k2,k3⟩:=nq (its:=its) λu hu=>hh u (Mw _ hu);refine⟨f::fs,.cons h1 h2 h3 h4 k1,by rw[M6,M6,k2],λg hg=>?_⟩;rcases List.mem_cons.mp hg with rfl|z
  ·exact h5
  ·exact k3 g z
theorem gb.first{σ:List Bool}{b:Bool}{xs:List Qg}{ns:List D}(f:gb xs ns)(h:Sh (b::σ) ns):∃v,xs[0]?=some v/\typeOf v=pure (.type (if b then"int"else"str")):=by
 cases f with
 |nil=>cases h
 |int i t f=>cases h;exact⟨_,rfl,rfl⟩
 |str i t f=>cases h;exact⟨_,rfl,rfl⟩
theorem pW{key:D->List D}{σ:List Bool}{ds:List D}(h:∀x∈ds,Sh σ (key x))(pw:ds.Pairwise λx y=>key x≠key y){p:Array Nat}(hp:PM ds.length p)(hu:Up (rank (ds.map key)) p ds.length):p.toList.map (λi=>ds.getD i .non)=iV key ds:=by
 have hr:p.toList.Perm (List.range ds.length):=by
  have:=Array.perm_iff_toList_perm.mp hp
  simpa using this
 have hmap:(List.range ds.length).map (λi=>ds.getD i .non)=ds:=by
  apply List.ext_getElem
  ·simp
  ·intro i h1 h2;simp at h1;simp[h1]
 have hperm:(p.toList.map λi=>ds.getD i .non).Perm ds:=by
  have:=hr.map (λi=>ds.getD i .non)
  rwa [hmap]at this
 have hn:p.toList.Nodup:=hr.nodup_iff.mpr List.nodup_range;refine(nM h pw ?_ hperm).symm;have hl:p.toList.length=ds.length:=by rw[hr.length_eq,NB]
 have kd:∀i,i<ds.length->(ds.map key).getD i []=key (ds.getD i .non):=λi hi=>by simp[hi]
 have hsh:∀k∈ds.map key,Sh σ k:=λk hk=>by
  obtain⟨x,hx,rfl⟩:=List.mem_map.mp hk;exact h x hx
 unfold v9;rw[N9,List.pairwise_iff_getElem];intro i j hi hj hij;have hi':p.toList[i]<ds.length:=by simpa using hr.mem_iff.mp (N8 hi)
 have hj':p.toList[j]<ds.length:=by simpa using hr.mem_iff.mp (N8 hj)
 have ne:p.toList[i]≠p.toList[j]:=List.pairwise_iff_getElem.mp hn i j hi hj hij;have up:=hu i j ‹0› ‹0›;have gi:p.getD i 0=p.toList[i]:=by
  have:i<p.size:=by rw[<-Array.length_toList];exact hi
  simp[Array.getD,this]
 have gj:p.getD j 0=p.toList[j]:=by
  have:j<p.size:=by rw[<-Array.length_toList];exact hj
  simp[Array.getD,this]
 unfold Rk at up;rw[gi,gj]at up;have rl:=qy hsh (i:=p.toList[j]) (j:=p.toList[i]) (by rw[MS];exact hj') (by rw[MS];exact hi');rw[kd _ hj',kd _ hi',decide_eq_false ‹0›]at rl;have ei:ds.getD p.toList[i] .non=ds[p.toList[i]]:=by rw[Oa,Nq hi'];rfl
 have ej:ds.getD p.toList[j] .non=ds[p.toList[j]]:=by rw[Oa,Nq hj'];rfl
 have s1:=h _ (show ds.getD p.toList[i] .non∈ds by rw[ei];exact N8 hi');have s2:=h _ (show ds.getD p.toList[j] .non∈ds by rw[ej];exact N8 hj');rcases ml s1 s2 with⟨z,_⟩|z|⟨z,_⟩
 ·exact z
 ·exfalso;have pw':=List.pairwise_iff_getElem.mp pw;rw[ei,ej]at z;rcases Nat.lt_or_gt_of_ne ne with q|q
  ·exact pw' _ _ hi' hj' q z
  ·exact pw' _ _ hj' hi' q z.symm
 ·rw[Ed.mpr z]at rl;cases rl
theorem oy{vs:List V}{us:List Qg}(r:Vals vs us):∀l:List Nat,(∀i∈l,i<vs.length)->Vals (l.map λi=>vs.getD i .non) (l.map λi=>us.getD i Value.none)
 |[],_=>.nil
 |i::l,h=>by
  have hi:=h i Mv;obtain⟨u,e,q⟩:=r.get (i:=i) (x:=vs[i]) (by simp[hi]);refine .cons ?_ (oy r l λj hj=>h j (Mw _ hj));have e1:vs.getD i .non=vs[i]:=by simp[hi]
  have e2:us.getD i Value.none=u:=by simp[Oa,e]
  show L2.RelV (vs.getD i .non) (us.getD i Value.none);rw[e1,e2];exact q
theorem pB{K:OZ}{H:Hp}{ds:List D}{vs:List V}(g:bh K H ds vs):∀l:List Nat,(∀i∈l,i<ds.length)->bh K H (l.map λi=>ds.getD i .non) (l.map λi=>vs.getD i .non)
 |[],_=>cU.mpr rfl
 |i::l,h=>by
  have hi:=h i Mv;obtain⟨v,e,q⟩:=g.get (i:=i) (d:=ds[i]) (by simp[hi]);refine bE.mpr ⟨_,_,rfl,?_,pB g l λj hj=>h j (Mw _ hj)⟩;have e1:ds.getD i .non=ds[i]:=by simp[hi]
  have e2:vs.getD i .non=v:=by simp[Oa,e]
  show cO K H (ds.getD i .non) (vs.getD i .non);rw[e1,e2];exact q
section
variable{X:Cx}{pins:List (Qj×Obj)}{s:Qs}{σ:L2.St}{H:Hp}{O:List Qj}
theorem tD{u:Qg}{ds:List D}{vs:List V}{its:List Qg}{d:D}{Q:VK}(I:Inv X pins σ H s)(hO:dQ H O)(dn:bh X.K (hid H O) ds vs)(rv:Vals vs its)(hs:pS ds=some d)
  (hcol:∀(Q':List Qg->Qs->Prop),(∀h' tk,(∀b o,s.heap.get? b=some o->h'.get? b=some o)->Q' its {s with heap:=h',toks:=tk})->Qu (model X.prog X.w) X.A.in1 (collect u) Q' X.xe s)
  (q:∀v H',bz H H'->cO X.K (hid H' O) d v->Q v H'):Qu (model X.prog X.w) X.A (call (.builtin "sorted") [u]) (EP X pins σ Q) X.xe s:=by
 have l1:=dn.length;have l2:=rv.length;have fin:∀(key:D->List D)(σ':List Bool),(∀x∈ds,Sh σ' (key x))->ds.Pairwise (λx y=>key x≠key y)->ds.length<64->d=.lst (iV key ds)->∀(p:Array Nat)(h1 h':Ql)(l:Qj)(e tk:Nat),PM its.length p->Up (rank (ds.map key)) p its.length->(∀b o,s.heap.get? b=some o->h1.get? b=some o)->(∀b o,h1.get? b=some o->h'.get? b=some o)->h1.objs.size<=l->
   h'.get? l=some (seqObj "list" (List.toArray (p.toList.map λi=>its.getD i Value.none)) e)->EP X pins σ Q (.ref l) {s with heap:=h',toks:=tk}:=by
  intro key σ' hsh pw h64 ed p h1 h' l e tk hp hu k1 k2 hl he;have el:its.length=ds.length:=by omega
  rw[el]at hp hu;have ps:=pW hsh pw hp hu;have hr:p.toList.Perm (List.range ds.length):=by
   have:=Array.perm_iff_toList_perm.mp hp
   simpa using this
  have hlt:∀i∈p.toList,i<ds.length:=λi hi=>by simpa using hr.mem_iff.mp hi
  have I1:Inv X pins σ H {s with heap:=h1,toks:=tk}:=I.kept k1;have hn:H l=none:=I1.hok.fresh hl;have rv':=oy rv p.toList λi hi=>by have:=hlt i hi;omega
  have dn':=pB dn p.toList hlt;have hlen:p.toList.length=ds.length:=by rw[hr.length_eq,NB]
  refine⟨.ref l,_,Inv.laid (s:={s with heap:=h1,toks:=tk}) (t':=tk) I1 k2 hl (show cJ X.prog X.w _ h' _ (.lst (p.toList.map λi=>vs.getD i .non))from⟨by rw[MS,hlen,QL];omega,_,e,rv',he⟩),rfl,?_⟩;refine q _ _ (bW hn _) ?_;rw[ed,<-ps];exact dh hO hn dn'
 unfold pS at hs;split at hs
 ·rename_i h;cases hs;obtain⟨h64,σ',hσ,hsh,pw⟩:=h;obtain⟨b,σ1,rfl⟩:∃b σ1,σ'=b::σ1:=by
   cases σ' with
   |nil=>exact absurd rfl hσ
   |cons b σ1=>exact⟨b,σ1,rfl⟩
  have hsh':∀x∈ds,Sh (b::σ1) (d7 x):=λx hx=>by
   obtain⟨k,rfl,hk⟩:=hsh x hx;exact hk
  have at':∀i (hi:i<ds.length),∃a o xs n,its[i]?=some (.ref a)/\s.heap.get? a=some o/\o.cls=.type "tuple"/\o.data=.seq xs n/\gb xs.toList (d7 ds[i]):=λi hi=>by
   obtain⟨v,e1,dv⟩:=dn.get (i:=i) (d:=ds[i]) (by simp[hi]);obtain⟨w,e2,rw'⟩:=rv.get e1;obtain⟨k,ek,hk⟩:=hsh _ (N8 hi);rw[ek]at dv ⊢;obtain⟨a,ws,rfl,ha,dk⟩:=cD.mp dv;cases rw';obtain⟨it2,r2,⟨o,ho,hc,n,hd⟩,_⟩:=I.tuple (bZ (aI H O) ha);exact⟨a,o,_,n,e2,ho,hc,hd,by simpa [d7]using jM (qc hk) dk r2⟩
  refine rP (κ:=tuples' true) (r:=rank (ds.map d7)) ‹0› hcol (λh2 h' tk kp Q' hQ=>?_) (λh2 h' tk kp i j C hi hj hC=>?_) (fin d7 _ hsh' pw h64 rfl)
  ·obtain⟨fs,t1,t2,t3⟩:=nq (h:=h') (PT:=λf=>typeOf f=pure (.type (if b then"int"else"str"))) (its:=its) λv hv=>by
    obtain⟨i,hi,rfl⟩:=Nw hv;obtain⟨a,o,xs,n,e1,ho,hc,hd,ff⟩:=at' i ‹0›;obtain⟨f,ef,tf⟩:=ff.first (hsh' _ (N8 _));refine⟨a,o,xs,n,f,?_,kp _ _ ho,hc,hd,by simpa using ef,tf⟩
    have:=Nq hi
    rw[e1]at this;exact(Option.some.inj this).symm
   refine kat_kind (T:=.type (if b then"int"else"str")) t1 ‹0› (λf hf=>Looks.of_pure (t3 f hf)) (by cases b<;>rfl) ?_
   have:(Value.type (if b then"int"else"str") !=Value.type "tuple")=true:=(by cases b<;>rfl);rw[this];exact hQ
  ·obtain⟨a,o,xs,n,e1,ho,hc,hd,ff⟩:=at' i ‹0›;obtain⟨a2,o2,xs2,n2,e2,ho2,hc2,hd2,ff2⟩:=at' j ‹0›;unfold Rx;have g1:its.getD i Value.none=.ref a:=(by simp[Oa,e1]);have g2:its.getD j Value.none=.ref a2:=(by simp[Oa,e2]);rw[g1,g2];have hi':i<ds.length:=(by omega);have hj':j<ds.length:=(by omega);have sh1:=hsh' _ (N8 hi');have sh2:=hsh' _ (N8 hj');have rl:=qy (ks:=ds.map d7) (σ:=b::σ1) (λk hk=>by obtain⟨x,hx,rfl⟩:=List.mem_map.mp hk;exact hsh' x hx) (i:=i) (j:=j) (by rw[MS];exact hi') (by rw[MS];exact hj');have k1:(ds.map d7).getD i []=d7 ds[i]:=(by simp[hi']);have k2:(ds.map d7).getD j []=d7 ds[j]:=(by simp[hj']);rw[k1,k2]at rl;rw[rl]at hC;refine kat_lt (kp _ _ ho) hd (kp _ _ ho2) hd2 (je ?_ sh1 sh2 ff ff2 hC);have z1:xs.size=(d7 ds[i]).length:=(by have:=ff.length;simpa using this);have z2:xs2.size=(d7 ds[j]).length:=(by have:=ff2.length;simpa using this);have z3:(d7 ds[i]).length=(d7 ds[j]).length:=(by rw[Sh.length sh1,Sh.length sh2]);exact decide_eq_false ‹0›
 ·split at hs
  ·rename_i _ h;cases hs;obtain⟨h64,b,hsh,pw⟩:=h;have at':∀i (hi:i<ds.length),(∃(n:Int)(t:Tok),b=true/\its[i]?=some (.int n t)/\ds[i]=.int n)\/∃(x:Str)(t:Tok),b=false/\its[i]?=some (.str x t)/\ds[i]=.str x:=λi hi=>by
    obtain⟨v,e1,dv⟩:=dn.get (i:=i) (d:=ds[i]) (by simp[hi]);obtain⟨w,e2,rw'⟩:=rv.get e1;have hk:=hsh _ (N8 hi);generalize ds[i]=di at dv hk;cases hk with
    |int n _=>
     rw[eZ]at dv;subst dv;obtain⟨t,rfl⟩:=rw';exact .inl ⟨n,t,rfl,e2,rfl⟩
    |str x _=>
     rw[e9]at dv;subst dv;obtain⟨t,rfl⟩:=rw';exact .inr ⟨x,t,rfl,e2,rfl⟩
   refine rP (κ:=oneType') (r:=rank (ds.map oneOf)) ‹0› hcol (λh2 h' tk kp Q' hQ=>?_) (λh2 h' tk kp i j C hi hj hC=>?_) (fin oneOf [b] hsh pw h64 rfl)
   ·refine kas_kind (T:=.type (if b then"int"else"str")) h2 (λv hv=>?_) (by cases b<;>rfl) (by cases b<;>rfl) hQ;obtain⟨i,hi,rfl⟩:=Nw hv;have hg:=Nq hi;rcases at' i ‹0›with⟨n,t,rfl,e,_⟩|⟨x,t,rfl,e,_⟩
    ·rw[hg]at e;rw[Option.some.inj e];exact Looks.of_pure rfl
    ·rw[hg]at e;rw[Option.some.inj e];exact Looks.of_pure rfl
   ·have hi':i<ds.length:=(by omega);have hj':j<ds.length:=(by omega);unfold Rx;have rl:=qy (ks:=ds.map oneOf) (σ:=[b]) (λk hk=>by obtain⟨x,hx,rfl⟩:=List.mem_map.mp hk;exact hsh x hx) (i:=i) (j:=j) (by rw[MS];exact hi') (by rw[MS];exact hj');have k1:(ds.map oneOf).getD i []=[ds[i]]:=(by simp[hi',oneOf]);have k2:(ds.map oneOf).getD j []=[ds[j]]:=(by simp[hj',oneOf]);rw[k1,k2]at rl;rw[rl]at hC;rcases at' i hi' with⟨n,t,hb,e1,q1⟩|⟨x,t,hb,e1,q1⟩
    ·rcases at' j hj' with⟨n2,t2,hb2,e2,q2⟩|⟨x2,t2,hb2,e2,q2⟩
     ·have g1:its.getD i Value.none=.int n t:=(by simp[Oa,e1]);have g2:its.getD j Value.none=.int n2 t2:=(by simp[Oa,e2]);rw[g1,g2,keyLt'_oneType];refine oneLt_int ?_;rw[q1,q2]at hC;unfold kLt at hC;rw[sf]at hC;by_cases z:n=n2
      ·rw[if_pos z]at hC;rw[decide_eq_false ‹0›];exact hC
      ·rw[if_neg z]at hC;cases hd:decide (n<n2)<;>rw[hd]at hC<;>exact hC
     ·rw[hb]at hb2;cases hb2
    ·rcases at' j hj' with⟨n2,t2,hb2,e2,q2⟩|⟨x2,t2,hb2,e2,q2⟩
     ·rw[hb]at hb2;cases hb2
     ·have g1:its.getD i Value.none=.str x t:=(by simp[Oa,e1]);have g2:its.getD j Value.none=.str x2 t2:=(by simp[Oa,e2]);rw[g1,g2,keyLt'_oneType];refine oneLt_str ?_;rw[q1,q2]at hC;unfold kLt at hC;rw[qF]at hC;by_cases z:x=x2
      ·rw[if_pos z]at hC;rw[decide_eq_false (by rw[z];exact rT _)];exact hC
      ·rw[if_neg z]at hC;cases hd:decide (x.cps.toList<x2.cps.toList)<;>rw[hd]at hC<;>exact hC
  ·cases hs
theorem kj:dN X (.builtin "sorted") (xD X.K eW):=by
 intro pins s σ H xs us Q I r ⟨O,ds,d,hO,hd,hg,q⟩;unfold eW at hg;split at hg
 ·obtain⟨v,rfl,h1⟩:=hd.one;obtain⟨p,ws,rfl,g1,g2⟩:=cE.mp h1;obtain⟨u,rfl,ru⟩:=vals1 r;cases ru;obtain⟨its,rv,pl,hz⟩:=I.list ((aI H O).seq g1);have hlen:=rv.length;obtain⟨o,ho,hc,n,hd'⟩:=pl.isList;exact tD I hO g2 rv hg (λQ' hQ=>RC p (.inl rfl) ho hc hd' (λh' k=>by simpa using hQ h' s.toks k) (by simp only[MF]<;>omega)) q
 ·obtain⟨v,rfl,h1⟩:=hd.one;obtain⟨p,ws,rfl,g1,g2⟩:=cD.mp h1;obtain⟨u,rfl,ru⟩:=vals1 r;cases ru;obtain⟨its,rv,⟨o,ho,hc,n,hd'⟩,hz⟩:=I.tuple (bZ (aI H O) g1);have hlen:=rv.length;exact tD I hO g2 rv hg (λQ' hQ=>RC p (.inr rfl) ho hc hd' (λh' k=>by simpa using hQ h' s.toks k) (by simp only[MF]<;>omega)) q
 ·cases hg
end
end TG
namespace TG
open PySem PySem.Spec L2
variable[bc]
section
variable{X:Cx}{tg:Qv}
end
end TG
namespace TG
open PySem PySem.Spec L2
variable[bc]
end TG
namespace TG
open PySem PySem.Spec L2
variable[bc]
end TG
namespace TG
open PySem PySem.Spec L2
variable[bc]
def keyOf:D->Option Key
 |.int i=>some (.inl i)
 |.str x=>some (.inr x)
 |_=>none
def keysOf:List D->Option (List Key)
 |[]=>some []
 |d::r=>(keyOf d).bind λk=>(keysOf r).map (k::·)
def jp:D->Option (List Key)
 |.tup ds=>keysOf ds
 |_=>none
theorem ra{d:D}{k:Key}(h:keyOf d=some k):d=bF k:=by
 cases d with
 |int i=>cases h;rfl
 |str x=>cases h;rfl
 |_=>cases h
theorem mL:∀{ds:List D}{ks:List Key},keysOf ds=some ks->ds=ks.map bF
 |[],_,h=>by cases h;rfl
 |d::r,ks,h=>by
  unfold keysOf at h;cases e1:keyOf d with
  |none=>rw[e1]at h;cases h
  |some k=>
   rw[e1]at h;cases e2:keysOf r with
   |none=>rw[e2]at h;cases h
   |some ks'=>rw[e2]at h;cases h;rw[ra e1,mL e2];rfl
theorem n5{d:D}{k:List Key}(h:jp d=some k):d=.tup (k.map bF):=by
 cases d with
 |tup ds=>rw[mL (show keysOf ds=some k from h)]
 |_=>cases h
theorem cy:∀ks:List Key,keysOf (ks.map bF)=some ks
 |[]=>rfl
 |k::r=>by
  show(keyOf (bF k)).bind _=_;have e:keyOf (bF k)=some k:=by cases k<;>rfl
  rw[e];show(keysOf (r.map bF)).map (k::·)=_;rw[cy r];rfl
theorem qD{K:OZ}{H:Hp}{k:Key}{v:V}(h:cO K H (bF k) v):v=kV k:=by
 cases k with
 |inl i=>exact eZ.mp h
 |inr x=>exact e9.mp h
theorem iM{K:OZ}{H:Hp}:∀{ks:List Key}{vs:List V},bh K H (ks.map bF) vs->vs=ks.map kV
 |[],vs,h=>by rw[MZ,cU]at h;exact h
 |k::r,vs,h=>by
  rw[M0,bE]at h;obtain⟨v,r',e1,h1,h2⟩:=h;rw[e1,qD h1,iM h2];rfl
section
variable{P:Qi}{w:Qh}{H H':Hp}{h:Ql}{a:Qj}
theorem BV(x:cJ P w H h a (.dK [])):cJ P w H' h a (.dT []):=by
 obtain⟨z,hd,vs,rel,o,es,ep,h1,h2,h3,h4,h5,h6⟩:=x;have e:vs=[]:=by have:=rel.length;simpa using this.symm
 subst e;refine⟨MI _,hd,[],.nil,o,es,ep,h1,h2,h3,?_,by simp⟩
 have:=h5.length
 simpa using this
theorem xc(x:cJ P w H h a (.dT [])):cJ P w H' h a (.dK []):=by
 obtain⟨z,hd,xs,rel,o,es,ep,h1,h2,h3,h4,h5⟩:=x;have e:xs=[]:=by have:=rel.length;simpa using this.symm
 subst e;have e2:es=#[]:=by simpa using h4
 subst e2;exact⟨MI _,hd,[],.nil,o,#[],ep,h1,h2,h3,λe he=>by simp at he,.nil,by simp⟩
end
section
variable{X:Cx}{pins:List (Qj×Obj)}{σ:St}{H:Hp}{s:Qs}{a:Qj}
theorem Ec(I:Inv X pins σ H s)(h1:H a=some (.dK [])):Inv X pins σ (upd H a (.dT [])) s:=by
 have hx:=I.hok a _ h1;have hq:∃q,s.heap.get? a=some q:=by obtain⟨_,_,_,_,o,_,_,e,_⟩:=id hx;exact⟨o,e⟩
 exact qf (ob:=.dT []) (h':=s.heap) (t':=s.toks) I (by rw[h1];exact trivial) ⟨rfl,λ_ _=>rfl⟩ hq (BV hx)
theorem GY(I:Inv X pins σ H s)(h1:H a=some (.dT [])):Inv X pins σ (upd H a (.dK [])) s:=by
 have hx:=I.hok a _ h1;have hq:∃q,s.heap.get? a=some q:=by obtain⟨_,_,_,_,o,_,_,e,_⟩:=id hx;exact⟨o,e⟩
 exact qf (ob:=.dK []) (h':=s.heap) (t':=s.toks) I (by rw[h1];exact trivial) ⟨rfl,λ_ _=>rfl⟩ hq (xc hx)
end
theorem v5{H:Hp}{a:Qj}{o1 o2:HO}(h:H a=some o1):upd (upd H a o2) a o1=H:=by
 funext b;by_cases e:b=a
 ·subst e;rw[aZ,h]
 ·rw[aM e,aM e]
def pq:List D->List D->Option (List (List Key×D))
 |[],[]=>some []
 |k::ks,d::ds=>(jp k).bind λk=>(pq ks ds).map ((k,d)::·)
 |_,_=>none
abbrev encK(al:List (List Key×D)):List D:=al.map λp=>.tup (p.1.map bF)
abbrev eL(al:List (List Key×D)):D:=.dct (encK al) (al.map (·.2))
theorem nK:∀{ks ds:List D}{al:List (List Key×D)},pq ks ds=some al->ks=encK al/\ds=al.map (·.2)
 |[],[],_,h=>by cases h;exact⟨rfl,rfl⟩
 |k::ks,d::ds,al,h=>by
  unfold pq at h;cases e1:jp k with
  |none=>rw[e1]at h;cases h
  |some k'=>
   rw[e1]at h;cases e2:pq ks ds with
   |none=>rw[e2]at h;cases h
   |some al'=>
    rw[e2]at h;cases h;obtain⟨h1,h2⟩:=nK e2;rw[n5 e1,h1,h2];exact⟨rfl,rfl⟩
 |[],_::_,_,h=>by cases h
 |_::_,[],_,h=>by cases h
theorem ou:∀al:List (List Key×D),pq (encK al) (al.map (·.2))=some al
 |[]=>rfl
 |p::r=>by
  show(jp (.tup (p.1.map bF))).bind _=_;have e:jp (.tup (p.1.map bF))=some p.1:=cy p.1;rw[e];show(pq (encK r) (r.map (·.2))).map ((p.1,p.2)::·)=_;rw[ou r];rfl
theorem nS:∀{al:List (List Key×D)}{ks:List (List Key)},encK al=ks.map (λk=>.tup (k.map bF))->al.map (·.1)=ks
 |[],[],_=>rfl
 |p::r,k::ks,h=>by
  have h:D.tup (p.1.map bF)::encK r=D.tup (k.map bF)::ks.map (λk=>.tup (k.map bF)):=h;injection h with h1 h2;injection h1 with h1;have e:some p.1=some k:=by rw[<-cy p.1,h1,cy k]
  rw[M0,Option.some.inj e,nS h2]
 |[],_::_,h=>by cases h
 |_::_,[],h=>by cases h
theorem J9{K:OZ}{H:Hp}{O:List Qj}{a:Qj}{al:List (List Key×D)}(h:eE K H O a (eL al)):
  (∃kvs:List (List Key×V),H a=some (.dT kvs)/\kvs.map (·.1)=al.map (·.1)/\bh K (hid H O) (al.map (·.2)) (kvs.map (·.2)))\/(H a=some (.dK [])/\al=[]):=by
 obtain⟨o,vs,h1,h2,h3⟩:=h;rcases h3 with⟨kvs,e,e1,e2⟩|⟨kvs,e,e1,e2⟩
 ·subst e;cases kvs with
  |nil=>
   refine .inr ⟨h1,?_⟩
   simpa using e1
  |cons p r=>
   cases al with
   |nil=>cases e1
   |cons q r'=>
    have e1:D.tup (q.1.map bF)::encK r'=bF p.1::r.map (λp=>bF p.1):=e1;injection e1 with e1 _;rcases p with⟨k,v⟩
    cases k<;>cases e1
 ·subst e;refine .inl ⟨kvs,h1,?_,by rw[<-e2];exact h2⟩;exact(nS (ks:=kvs.map (·.1)) (by rw[Oc];exact e1)).symm
theorem vR{kvs:List (List Key×V)}{ks:List (List Key)}(e:kvs.map (·.1)=ks)(k:List Key):(kR kvs k).isSome=ks.any λq=>decide (q=k):=by
 subst e
 induction kvs with
 |nil=>rfl
 |cons p r ih=>
  rw[M0,M2,<-ih];by_cases e:p.1=k
  ·rw[lG e];simp[e]
  ·rw[lu e];simp[e]
def ng(ks ds:List D)(k:D):Option D:=(pq ks ds).bind λal=>(jp k).bind λk=>some (.bl (al.any λp=>decide (p.1=k)))
def L9(i:Nat)(f:FX):FX:=λρ=>(f ρ).bind λk=>match ρ[i]? with
 |some (some (.own (.dct ks ds)))=>rO (ng ks ds k)
 |_=>un
theorem qQ{ks ds:List D}{k d:D}(h:ng ks ds k=some d):∃al q,ks=encK al/\ds=al.map (·.2)/\k=.tup (q.map bF)/\d=.bl (al.any λp=>decide (p.1=q)):=by
 unfold ng at h;cases e1:pq ks ds with
 |none=>rw[e1]at h;cases h
 |some al=>
  rw[e1]at h;cases e2:jp k with
  |none=>rw[e2]at h;cases h
  |some q=>
   rw[e2]at h;cases h;obtain⟨h1,h2⟩:=nK e1;exact⟨al,q,h1,h2,n5 e2,rfl⟩
def il(al:List (List Key×D))(k:List Key)(v:D):List (List Key×D):=if(al.any λp=>decide (p.1=k))=true then al.map (λp=>if p.1=k then(p.1,v)else p)else al++[(k,v)]
def sW(ks ds:List D)(k v:D):Option (List (List Key×D)):=(pq ks ds).bind λal=>(jp k).bind λk=>if small al.length then some (il al k v)else none
def tU(i:Nat)(fk fv:FX):cx:=λk ρ=>match ρ[i]? with
 |some (some (.own (.dct ks ds)))=>si ((fv ρ).bind λv=>(fk ρ).bind λq=>rO (sW ks ds q v)) k ρ λal=>k.nx (ρ.set i (some (.own (eL al))))
 |_=>un
theorem yJ{ks ds:List D}{k v:D}{al':List (List Key×D)}(h:sW ks ds k v=some al'):∃al q,ks=encK al/\ds=al.map (·.2)/\k=.tup (q.map bF)/\small al.length=true/\al'=il al q v:=by
 unfold sW at h;cases e1:pq ks ds with
 |none=>rw[e1]at h;cases h
 |some al=>
  rw[e1]at h;cases e2:jp k with
  |none=>rw[e2]at h;cases h
  |some q=>
   rw[e2]at h;obtain⟨h3,h4⟩:=bP (show(if small al.length then some (il al q v)else none)=some al' from h);obtain⟨h1,h2⟩:=nK e1;exact⟨al,q,h1,h2,n5 e2,h3,h4.symm⟩
theorem wj{kvs:List (List Key×V)}{al:List (List Key×D)}(e:kvs.map (·.1)=al.map (·.1))(k:List Key)(w:V)(d:D):(putK kvs k w).map (·.1)=(il al k d).map (·.1):=by
 have e2:(kvs.any λp=>decide (p.1=k))=(al.any λp=>decide (p.1=k)):=by
  have:=congrArg (λl=>l.any λq=>decide (q=k)) e
  simpa [Od,Function.comp_def]using this
 unfold putK il;rw[e2];split
 ·have e3:∀(l:List (List Key×V)),(l.map λkv=>if kv.1=k then(kv.1,w)else kv).map (·.1)=l.map (·.1):=λl=>by
   rw[Oc];refine Ny λp _=>?_;show(if p.1=k then(p.1,w)else p).1=p.1;split<;>rfl
  have e4:∀(l:List (List Key×D)),(l.map λkv=>if kv.1=k then(kv.1,d)else kv).map (·.1)=l.map (·.1):=λl=>by
   rw[Oc];refine Ny λp _=>?_;show(if p.1=k then(p.1,d)else p).1=p.1;split<;>rfl
  rw[e3,e4,e]
 ·rw[Nz,Nz,e];rfl
theorem vH{K:OZ}{H:Hp}{k:List Key}{w:V}{d:D}(hw:cO K H d w):∀{kvs:List (List Key×V)}{al:List (List Key×D)},kvs.map (·.1)=al.map (·.1)->bh K H (al.map (·.2)) (kvs.map (·.2))->
  bh K H ((al.map λp=>if p.1=k then(p.1,d)else p).map (·.2)) ((kvs.map λp=>if p.1=k then(p.1,w)else p).map (·.2))
 |[],[],_,h=>h
 |p::r,q::r',e,h=>by
  rw[M0,M0]at e;injection e with e1 e2;rw[M0,M0,bE]at h;obtain⟨v,ws,h0,h1,h2⟩:=h;injection h0 with h0 h0';subst h0 h0';have ih:=vH (k:=k) hw e2 h2;rw[M0,M0,M0,M0,bE];refine⟨_,_,rfl,?_,ih⟩;rw[e1];split
  ·exact hw
  ·exact h1
 |[],_::_,e,_=>by cases e
 |_::_,[],e,_=>by cases e
theorem zI{K:OZ}{H:Hp}{k:List Key}{w:V}{d:D}(hw:cO K H d w){kvs:List (List Key×V)}{al:List (List Key×D)}(e:kvs.map (·.1)=al.map (·.1))(h:bh K H (al.map (·.2)) (kvs.map (·.2))):
  bh K H ((il al k d).map (·.2)) ((putK kvs k w).map (·.2)):=by
 have e2:(kvs.any λp=>decide (p.1=k))=(al.any λp=>decide (p.1=k)):=by
  have:=congrArg (λl=>l.any λq=>decide (q=k)) e
  simpa [Od,Function.comp_def]using this
 unfold putK il;rw[e2];split
 ·exact vH hw e h
 ·rw[Nz,Nz];exact h.append (bE.mpr ⟨w,[],rfl,hw,cU.mpr rfl⟩)
theorem Cq{kvs:List (List Key×V)}{al:List (List Key×D)}(e:kvs.map (·.1)=al.map (·.1)):encK al=kvs.map λp=>D.tup (p.1.map bF):=by
 have:=congrArg (List.map λk:List Key=>D.tup (k.map bF)) e
 rw[Oc,Oc]at this;exact this.symm
theorem wY{H:Hp}{a:Qj}{o1 o2:HO}:upd (upd H a o1) a o2=upd H a o2:=by
 funext b;by_cases e:b=a
 ·subst e;rw[aZ,aZ]
 ·rw[aM e,aM e,aM e]
def Ft(td ty tv:TE):TS:=λD σ H=>tv σ H λv H1=>td σ H1 λx H2=>ty σ H2 λy H3=>∃a k b kvs,x=.ref a/\y=.ref b/\H3 b=some (.tup (k.map kV))/\(H3 a=some (.dT kvs)\/(H3 a=some (.dK [])/\kvs=[]))/\kvs.length<Qm/\D.nx σ (upd H3 a (.dT (putK kvs k v)))
section
variable{X:Cx}{o idx value:Qv}{pos pos':Pos}{td ty tv:TE}
theorem Ct(hu:X.A.units+1<QQ)(ho:PE X o td)(hi:PE X idx ty)(hv:PE X value tv)(hs:swapsWith value (some (.Subscript o idx pos')) pos.line X.env=pure false):PS X (.Assign [.Subscript o idx pos'] value pos) (Ft td ty tv):=by
 intro pins s σ H D I h;refine wpAny_Assign_Subscript (eJ (hv pins s σ H _ I h) λr s1 ⟨v,H1,I1,rv,q1⟩=>eJ (ho pins s1 σ H1 _ I1 q1) λu s2 ⟨x,H2,I2,rx,q2⟩=>eJ (hi pins s2 σ H2 _ I2 q2) λiv s3 ⟨y,H3,I3,ry,a,k,b,kvs,ex,ey,hb,ha,hl,q3⟩=>?_) hs;subst ex ey;obtain rfl:u=Value.ref a:=rx;rcases ha with ha|⟨ha,rfl⟩
 ·exact mD hu I3 (FH.t ha hb hl) ry rv λs4 I4=>⟨σ,_,I4,q3⟩
 ·have ne:b≠a:=λz=>by rw[z,ha]at hb;cases hb
  refine mD hu (Ec I3 ha) (FH.t aZ (by rw[aM ne];exact hb) hl) ry rv λs4 I4=>⟨σ,_,I4,?_⟩
  rw[wY];exact q3
end
theorem JH{X:Cx}{i:Nat}{x:Str}{idx value:Qv}{fk fv:FX}{npos tpos pos:Pos}(hu:X.A.units+64<QQ)(hx:PE X (.Name x npos) (wG i))(hi:FE X idx fk)(hv:FE X value fv)
  (hs:swapsWith value (some (.Subscript (.Name x npos) idx tpos)) pos.line X.env=pure false:=by rfl):
  FS X (.Assign [.Subscript (.Name x npos) idx tpos] value pos) (tU i fk fv):=λHb Ob pins s σ H E I ⟨O,ρ,k,rr,S,hF,hk⟩=>by
 unfold tU at hF;split at hF
 ·rename_i ks ds hxs;obtain⟨a,ha,haO,hat⟩:=S.env.own i _ hxs;have hP:=iX.on hF hk S (Q:=λal=>k.nx (ρ.set i (some (.own (eL al))))=rr) λp e=>e;refine Ct ‹0› hx hi hv hs pins s σ H E I ⟨O,ρ,S.env,(iX.bind hP).imp λy hP v H1 s1 d1=>?_⟩;have S1:=S.same s1;refine⟨.ref a,ha,O,ρ,S1.env,((iX.bind hP).mono s1).imp λj hP w H2 s2 d2=>?_⟩;have S2:=S1.same s2;obtain⟨al',hg,e⟩:=iX.rO hP;obtain⟨al,q,f1,f2,f3,f4,f5⟩:=yJ hg;subst f1 f2 f3 f5;have s12:=s1.trans s2;obtain⟨b,ws,eb,g1,g2⟩:=cD.mp d2;rw[iM g2]at g1;have hat2:eE X.K H2 O a (eL al):=hat.mono (let ⟨_,z⟩:=hat.some;qq s12 z) (cw s12);have dv:cO X.K (hid H2 O) y v:=d1.mono (cw s2);have fin:∀kvs:List (List Key×V),kvs.map (·.1)=al.map (·.1)->bh X.K (hid H2 O) (al.map (·.2)) (kvs.map (·.2))->eE X.K (upd H2 a (.dT (putK kvs q v))) O a (eL (il al q y)):=λkvs k2 k3=>
   ⟨_,_,aZ,(zI dv k2 k3).mono (jj haO),.inr ⟨putK kvs q v,rfl,Cq (wj k2 q v y),rfl⟩⟩
  rcases J9 hat2 with⟨kvs,k1,k2,k3⟩|⟨k1,rfl⟩
  ·have hl:kvs.length=al.length:=(by have:=congrArg List.length k2;simpa using this);exact⟨a,q,b,kvs,rfl,eb,(aI H2 O) _ _ g1,.inl k1,by rw[hl];exact NI (of_decide_eq_true f4) (by decide),hk.nx O _ σ _ (S2.setO hxs ha trivial (fin kvs k2 k3)) e⟩
  ·exact⟨a,q,b,[],rfl,eb,(aI H2 O) _ _ g1,.inr ⟨k1,rfl⟩,by decide,hk.nx O _ σ _ (S2.setO hxs ha trivial (fin [] rfl (cU.mpr rfl))) e⟩
 ·exact absurd hF.symm hk.ne
end TG
namespace TG
open PySem PySem.Spec L2
variable[bc]
end TG
namespace TG
open PySem PySem.Spec PySem.W PySem.Calls PyProof.Rows Builtin Builtin.ObjectAttr Builtin.Getset_descriptor
variable[bc]
end TG
namespace TG
open PySem PySem.Spec L2
variable[bc]
open PyProof.Rows (AllBare OwnCls)
end TG
namespace TG
open PySem PySem.Spec L2
variable[bc]
end TG
namespace TG
open PySem PySem.Spec L2
variable[bc]
end TG
namespace TG
open PySem PySem.Spec L2
variable[bc]
end TG
namespace TG
open PySem PySem.Spec L2
def ow(P:Qj)(pos:Pos)(q:Str):(Qj->Prop)->Ql->Prop:=λS h=>h.get? P=some (Pu #[])\/∃c,S c/\h.get? P=some (Pu #[rawInt pos.line,rawInt pos.col,.ref c])/\h.CodeRec (.ref c) q
theorem ow.stay{P:Qj}{pos:Pos}{q:Str}{S1 S2:Qj->Prop}{h1 h2:Ql}(x:ow P pos q S1 h1)(s:∀b,S1 b->S2 b)(k:∀b o,(b=P\/S1 b)->h1.get? b=some o->h2.get? b=some o):ow P pos q S2 h2:=by
 rcases x with e|⟨c,hc,e,c',o,vs,t,ec,e1,r⟩
 ·exact .inl (k _ _ (.inl rfl) e)
 ·cases ec;exact .inr ⟨c,s c hc,k _ _ (.inl rfl) e,c,o,vs,t,rfl,k _ _ (.inr hc) e1,r⟩
theorem ow.ok{Pg:Qi}{w:Qh}{H:Hp}{h:Ql}{P:Qj}{pos:Pos}{q:Str}(x:ow P pos q (λb=>H b=some (.own P)) h):cJ Pg w H h P (.ext (ow P pos q)):=
 ⟨x,by rcases x with e|⟨_,_,e,_⟩<;>exact⟨_,e⟩,λ_ _ _ _ x s k=>x.stay s k⟩
abbrev uS(P:Qj)(pos:Pos)(q:Str):bc:=⟨λH=>H P=some (.ext (ow P pos q)),λh e=>e _ _ h,λ{H p o o'} h hp m=>by
 rw[aM]
 ·exact h
 ·rintro rfl;rw[h]at hp;cases hp;exact m⟩
open PySem PySem.Spec PyProof.Rows PySem.W L2
variable[bc]
def sC(key:List D)(h:Ql)(k:Qg):Prop:=∃b o xs n,k=.ref b/\h.get? b=some o/\o.cls=.type "tuple"/\o.data=.seq xs n/\gb xs.toList key
theorem sC.keep{key:List D}{h h':Ql}{k:Qg}(x:sC key h k)(kp:∀b o,h.get? b=some o->h'.get? b=some o):sC key h' k:=by
 obtain⟨b,o,xs,n,e,ho,r⟩:=x;exact⟨b,o,xs,n,e,kp _ _ ho,r⟩
theorem sC.stay{key:List D}{h h':Ql}{k:Qg}{c:Qj}{xs:Array Qg}{n:Nat}(x:sC key h k)(hc:h.get? c=some (seqObj "list" xs n))(kp:∀b o,b≠c->h.get? b=some o->h'.get? b=some o):sC key h' k:=by
 obtain⟨b,o,ys,m,e,ho,hk,r⟩:=x;refine⟨b,o,ys,m,e,kp _ _ (λz=>?_) ho,hk,r⟩;subst z;rw[hc]at ho;cases ho;revert hk;show¬(Value.type "list"=Value.type "tuple");simp
section
variable{prog:Qi}{w:Qh}{A:Qr}{E:Qg->Qs->Prop}{s:Qs}
theorem Ai{ks:List Qg}{keys:List (List D)}{σ:List Bool}{b:Bool}{Q:Rv->Qs->Prop}(hl:ks.length=keys.length)(hsh:∀k∈keys,Sh (b::σ) k)(h1:1<=ks.length)
  (hk:∀i,i<ks.length->sC (keys.getD i []) s.heap (ks.getD i Value.none)) (h:Q (tuples' true) s):Qu (model prog w) A (keyKind' ks.toArray) Q E s:=by
 obtain⟨fs,t1,t2,t3⟩:=nq (h:=s.heap) (PT:=λf=>typeOf f=pure (.type (if b then"int"else"str"))) (its:=ks) λv hv=>by
  obtain⟨i,hi,rfl⟩:=Nw hv;obtain⟨a,o,xs,n,e1,ho,hc,hd,ff⟩:=hk i hi;have hi':i<keys.length:=by omega
  have gk:keys.getD i []=keys[i]:=by simp[hi']
  rw[gk]at ff;obtain⟨f,ef,tf⟩:=ff.first (hsh _ (N8 hi'));have gv:ks.getD i Value.none=ks[i]:=by simp[hi]
  rw[gv]at e1;exact⟨a,o,xs,n,f,e1,ho,hc,hd,by simpa using ef,tf⟩
 refine kat_kind (T:=.type (if b then"int"else"str")) t1 ‹0› (λf hf=>Looks.of_pure (t3 f hf)) (by cases b<;>rfl) ?_
 have:(Value.type (if b then"int"else"str") !=Value.type "tuple")=true:=by cases b<;>rfl
 rw[this];exact h
theorem yu{ks:List Qg}{keys:List (List D)}{σ:List Bool}{b:Bool}(hl:ks.length=keys.length)(hsh:∀k∈keys,Sh (b::σ) k)
  (hk:∀i,i<ks.length->sC (keys.getD i []) s.heap (ks.getD i Value.none)):lm (Rx prog w A (tuples' true) ks) (rank keys) ks.length s:=by
 intro i j C hi hj hC;obtain⟨a,o,xs,n,e1,ho,hc,hd,ff⟩:=hk i hi;obtain⟨a2,o2,xs2,n2,e2,ho2,hc2,hd2,ff2⟩:=hk j hj;unfold Rx;rw[e1,e2];have hi':i<keys.length:=by omega
 have hj':j<keys.length:=by omega
 have gi:keys.getD i []=keys[i]:=by simp[hi']
 have gj:keys.getD j []=keys[j]:=by simp[hj']
 have sh1:=hsh _ (N8 hi');have sh2:=hsh _ (N8 hj');have rl:=qy (ks:=keys) hsh hi' hj';rw[rl]at hC;rw[gi]at ff;rw[gj]at ff2;rw[gi,gj]at hC;refine kat_lt ho hd ho2 hd2 (je ?_ sh1 sh2 ff ff2 hC);have z1:xs.size=keys[i].length:=by have:=ff.length;simpa using this
 have z2:xs2.size=keys[j].length:=by have:=ff2.length;simpa using this
 have z3:keys[i].length=keys[j].length:=by rw[Sh.length sh1,Sh.length sh2]
 exact decide_eq_false ‹0›
theorem Bo{f:Qg}{a:Qj}{vs:List Qg}{n:Nat}{keys:List (List D)}{σ:List Bool}{b:Bool}{P:PySem.Fin->Qs->Prop}
  (ho:s.heap.get? a=some (seqObj "list" vs.toArray n)) (h64:vs.length<64) (hl:keys.length=vs.length) (hsh:∀k∈keys,Sh (b::σ) k)
  (hc:∀ (i:Nat) (v:Qg) (h':Ql) (tk:Nat) (Q':Qg->Qs->Prop),vs[i]?=some v->(∀ c o,c≠a->s.heap.get? c=some o->h'.get? c=some o) ->
   (∀k h'' tk',(∀c o,h'.get? c=some o->h''.get? c=some o)->sC (keys.getD i []) h'' k->Q' k {s with heap:=h'',toks:=tk'})->Qu (model prog w) A (call f [v]) Q' (λ_ _=>False) {s with heap:=h',toks:=tk})
  (h:∀ (p:Array Nat) (h':Ql) (e tk:Nat),PM vs.length p->Up (rank keys) p vs.length->(∀ c o,c≠a->s.heap.get? c=some o->h'.get? c=some o)->h'.get? a=some (seqObj "list" (List.toArray (p.toList.map fun i=>vs.getD i Value.none)) e) ->
   P (.done (.ret .none)) {s with heap:=h',toks:=tk}):Qu (model prog w) A (ksk_tree a f false) P E s:=by
 have ha:a<s.heap.objs.size:=PD ho;obtain⟨e1,ho1⟩:∃e1,(s.heap.update a (Obj.mapSeq λ_=>(#[]:Array Qg))).get? a=some (seqObj "list" #[] e1):=⟨_,Rz ho (λ_=>#[])⟩
 unfold ksk_tree;refine QD (listItems_at ho rfl ?_);refine QD (Ry ho rfl ?_ (by rw[MF,QL];omega) (MI _));refine QD (RA ho1 rfl ?_);refine QD (Rr ?_ (by show vs.length<=_;rw[QL];omega));refine QD (RB ?_ (MI _));refine Q1 ?_;have hkS:((s.heap.update a (Obj.mapSeq λ_=>(#[]:Array Qg))).push (seqObj "tuple" vs.toArray 0)).objs.size=s.heap.objs.size+1:=by rw[size_push',PQ]
 show Qu (model prog w) A (ksk_rest a f false vs.toArray e1 (.ref ((s.heap.update a (Obj.mapSeq λ_=>(#[]:Array Qg))).push (seqObj "tuple" vs.toArray 0)).objs.size)) P E {s with heap:=((s.heap.update a (Obj.mapSeq λ_=>(#[]:Array Qg))).push (seqObj "tuple" vs.toArray 0)).push (seqObj "list" #[] 0)};rw[hkS];have hS0:(((s.heap.update a (Obj.mapSeq λ_=>(#[]:Array Qg))).push (seqObj "tuple" vs.toArray 0)).push (seqObj "list" #[] 0)).get? (s.heap.objs.size+1)=some (seqObj "list" #[] 0):=by rw[<-hkS];exact PK _ rfl
 have hA0:(((s.heap.update a (Obj.mapSeq λ_=>(#[]:Array Qg))).push (seqObj "tuple" vs.toArray 0)).push (seqObj "list" #[] 0)).get? a=some (seqObj "list" #[] e1):=PJ _ (PJ _ ho1);have hK0:∀b o,b≠a->s.heap.get? b=some o->(((s.heap.update a (Obj.mapSeq λ_=>(#[]:Array Qg))).push (seqObj "tuple" vs.toArray 0)).push (seqObj "list" #[] 0)).get? b=some o:=λb o hb e=>
  PJ _ (PJ _ (by rw[PR _ _ _ _ hb];exact e))
 have hne:a≠s.heap.objs.size+1:=Mq (Nh ha);have hold:∀c o,s.heap.get? c=some o->c≠s.heap.objs.size+1:=λc o e=>Mq (Nh (PD e));generalize (((s.heap.update a (Obj.mapSeq λ_=>(#[]:Array Qg))).push (seqObj "tuple" vs.toArray 0)).push (seqObj "list" #[] 0))=h0 at hS0 hA0 hK0;generalize s.heap.objs.size+1=kS at hS0 hne hold;unfold ksk_rest;refine QD (Rf ?_)
 first
  |rw[List.forIn_toArray]
  |(rw[<-Array.forIn_toList];simp only[Oe])
  |rw[<-Array.forIn_toList]
 refine QD (ksk_fold (λi s'=>∃(ks:List Qg)(e:Nat)(h':Ql)(tk:Nat),s'={s with heap:=h',toks:=tk}/\ks.length=i/\i<=vs.length/\h'.get? kS=some (seqObj "list" (List.toArray ks) e)/\h'.get? a=some (seqObj "list" #[] e1)/\
  (∀c o,c≠a->s.heap.get? c=some o->h'.get? c=some o)/\∀j,j<i->sC (keys.getD j []) h' (ks.getD j Value.none)) vs 0 _ ⟨[],0,h0,s.toks,rfl,rfl,MI _,hS0,hA0,hK0,λj hj=>absurd hj (Nat.not_lt_zero _)⟩ ?_ ?_)
 ·rintro j x s' hx ⟨ks,e,h',tk,rfl,hlen,hle,hS,hA,hK,hT⟩;rw[NW]at hlen hle hT;have hj:j<vs.length:=by
   rcases Of j vs.length with z|z
   ·exact z
   ·rw[Og z]at hx;cases hx
  refine QD (Rt (Qy (hc j x h' tk (λk s''=>∃h'' tk',s''={s with heap:=h'',toks:=tk'}/\(∀c o,h'.get? c=some o->h''.get? c=some o)/\sC (keys.getD j []) h'' k) hx hK λk h'' tk' kp tK=>⟨h'',tk',rfl,kp,tK⟩) (λk s'' hk=>?_) λ_ _ hF=>hF.elim));obtain⟨h'',tk',rfl,kp,tK⟩:=hk;have nk:=kp _ _ hS;have s1:∀c o,c≠kS->h''.get? c=some o->(h''.update kS (Obj.mapSeq (·.push k))).get? c=some o:=λc o hc' e=>by rw[PR _ _ _ _ hc'];exact e
  have ea:(List.toArray ks).push k=List.toArray (ks++[k]):=by simp
  obtain⟨c2,hc2⟩:∃c2,(h''.update kS (Obj.mapSeq (·.push k))).get? kS=some (seqObj "list" (List.toArray (ks++[k])) c2):=⟨_,by rw[<-ea];exact Rz nk (·.push k)⟩
  try dsimp only
  refine QD (Ry nk rfl ?_ (by rw[MF,QL];omega) (Mr (MH (Array.size_push ..)) (by rw[MF,QL];omega)));refine QC ⟨rfl,ks++[k],c2,_,tk',rfl,by rw[MR,MY];omega,by omega,hc2,s1 _ _ hne (kp _ _ hA),λc o h1 h2=>s1 _ _ (hold c o h2) (kp _ _ (hK c o h1 h2)),λi hi=>?_⟩;refine sC.stay (c:=kS) ?_ nk s1;by_cases z:i=j
  ·subst z
   have:(ks++[k]).getD i Value.none=k:=(by simp[Oa,<-hlen]);rw[this];exact tK
  ·have hi':i<ks.length:=by omega
   have:(ks++[k]).getD i Value.none=ks.getD i Value.none:=(by simp[Oa,MO hi']);rw[this];exact(hT i ‹0›).keep kp
 ·rintro s' ⟨ks,e,h',tk,rfl,hlen,hle,hS,hA,hK,hT⟩;rw[NW]at hlen hT
  try dsimp only
  refine QD (listItems_at hS rfl ?_);have tail:∀(p:Array Nat)(st:SortSt),(arrOf st).map (·.2)=List.toArray (p.toList.map λi=>vs.getD i Value.none)->failedOf st=none->PM vs.length p->Up (rank keys) p vs.length->Qu (model prog w) A (ksk_tail a false e1 (.ref kS) st) P E {s with heap:=h',toks:=tk}:=by
   intro p st hout hf hp hu;obtain⟨ck,hck⟩:∃ck,(h'.update kS (Obj.mapSeq λ_=>(#[]:Array Qg))).get? kS=some (seqObj "list" #[] ck):=⟨_,Rz hS λ_=>#[]⟩
   have hA2:(h'.update kS (Obj.mapSeq λ_=>(#[]:Array Qg))).get? a=some (seqObj "list" #[] e1):=(by rw[PR _ _ _ _ hne];exact hA);obtain⟨c2,hc2⟩:∃c2,((h'.update kS (Obj.mapSeq λ_=>(#[]:Array Qg))).update a (Obj.mapSeq λ_=>List.toArray (p.toList.map λi=>vs.getD i Value.none))).get? a=some (seqObj "list" (List.toArray (p.toList.map λi=>vs.getD i Value.none)) c2):=⟨_,Rz hA2 λ_=>List.toArray (p.toList.map λi=>vs.getD i Value.none)⟩
   unfold ksk_tail
   try dsimp only
   rw[hout];refine QD (Ry hS rfl ?_ (by rw[MF,QL];omega) (MI _));refine QD (Rq ?_);refine QD (RA hA2 rfl ?_);simp only[Ng,if_false];refine QD (Ry hA2 rfl ?_ (MI _) (by rw[MF,MS,Array.length_toList,hp.size,QL];omega));rw[hf];simp only[bne_self_eq_false,Ng,if_false];exact QC (h p _ c2 tk hp hu (λc o h1 h2=>by rw[PR _ _ _ _ h1,PR _ _ _ _ (hold c o h2)];exact hK c o h1 h2) hc2)
  unfold ksk_end
  try dsimp only
  simp only[Ng,if_false];have hl2:ks.length=vs.length:=hlen;by_cases h2:vs.toArray.size<2
  ·rw[if_pos h2,if_pos h2];refine QD (QC ?_);rw[StateT.run_pure];refine QD (QC ?_);dsimp only;refine tail (List.toArray (List.range vs.length)) _ ?_ rfl (Array.Perm.refl _) λi j hij hj=>?_
   ·refine kat_snds hl2 ?_;show(List.toArray ks).zip vs.toArray=_;have e:=kas_range ((List.toArray ks).zip vs.toArray);rw[show((List.toArray ks).zip vs.toArray).size=vs.length by simp[hl2]]at e;exact e.symm
   ·have:vs.length<2:=by simpa using h2
    have:i=j:=(by omega);subst this;exact MC _
  ·have h2':2<=vs.length:=by
    have:¬vs.length<2:=(by simpa using h2);omega
   rw[if_neg h2,if_neg h2];refine QD (Ai (s:={s with heap:=h',toks:=tk}) ‹0› hsh ‹0› (λi hi=>hT i ‹0›) ?_);refine QD (Qy (kat_run (Q:=λst' s'=>∃p:Array Nat,arrOf st'=p.map (kas_item ((List.toArray ks).zip vs.toArray))/\failedOf st'=none/\PM vs.length p/\Up (rank keys) p vs.length/\s'={s with heap:=h',toks:=tk})
    (G:=λp s'=>PM vs.length p/\Up (rank keys) p vs.length/\s'={s with heap:=h',toks:=tk})
    hl2 h2' h64 (λp' st' s' a1 a2 a3 a4=>⟨p',a2,a3,a4.1,a4.2.1,a4.2.2⟩) (by
     have:=yu (prog:=prog) (w:=w) (A:=A) (s:={s with heap:=h',toks:=tk}) (ks:=ks) (keys:=keys) ‹0› hsh (λi hi=>hT i ‹0›)
     rw[hl2]at this;exact yT this ‹0› λp hp hu=>⟨hp,hu,rfl⟩)) ?_ λ_ _ e=>e)
   rintro⟨⟨⟩,st'⟩ s' ⟨p,har,hf,hp,hu,rfl⟩;dsimp only;exact tail p st' (kat_snds hl2 har) hf hp hu
theorem xj{src:Qg}{f:Qj}{vs:List Qg}{keys:List (List D)}{σ:List Bool}{b:Bool}{Q:Qg->Qs->Prop}(h64:vs.length<64)(hl:keys.length=vs.length)(hsh:∀k∈keys,Sh (b::σ) k)
  (hcol:∀(Q':List Qg->Qs->Prop),(∀h' tk,(∀b o,s.heap.get? b=some o->h'.get? b=some o)->Q' vs {s with heap:=h',toks:=tk})->Qu (model prog w) A.in1 (collect src) Q' E s)
  (hc:∀ (i:Nat) (v:Qg) (h':Ql) (tk:Nat) (Q':Qg->Qs->Prop),vs[i]?=some v->(∀ c o,s.heap.get? c=some o->h'.get? c=some o) ->
   (∀k h'' tk',(∀c o,h'.get? c=some o->h''.get? c=some o)->sC (keys.getD i []) h'' k->Q' k {s with heap:=h'',toks:=tk'})->Qu (model prog w) A.in1.in1 (call (.ref f) [v]) Q' (λ_ _=>False) {s with heap:=h',toks:=tk})
  (h:∀(p:Array Nat)(h1 h':Ql)(l:Qj)(e tk:Nat),PM vs.length p->Up (rank keys) p vs.length->(∀b o,s.heap.get? b=some o->h1.get? b=some o)->(∀b o,h1.get? b=some o->h'.get? b=some o)->h1.objs.size<=l->h'.get? l=some (seqObj "list" (List.toArray (p.toList.map λi=>vs.getD i Value.none)) e)->Q (.ref l) {s with heap:=h',toks:=tk}):
  Qu (model prog w) A (call (.builtin "sorted") [src] [(Str.ofString "key",.ref f)]) Q E s:=by
 refine PyProof.Rows.call_function_entry_kw kind_sorted plain_sorted entry_sorted (ksk_s1 _ _) ?_;unfold Builtin.«sorted»;refine QD (m:=checkCount "sorted" 1 1 _) (QC ?_);refine QD (hcol _ λh1 tk k1=>?_);refine QD (RB ?_ (by rw[QL];omega));have hoL:(h1.push (seqObj "list" vs.toArray 0)).get? h1.objs.size=some (seqObj "list" vs.toArray 0):=PK _ rfl;have k2:∀b o,s.heap.get? b=some o->(h1.push (seqObj "list" vs.toArray 0)).get? b=some o:=λb o e=>PJ _ (k1 b o e);have ne:∀b o,s.heap.get? b=some o->b≠h1.objs.size:=λb o e=>Mq (PD (k1 b o e));refine QD (Q1 (wpAny_call_entry_kw slot_list_sort ⟨_,hoL,rfl⟩ entry_list_sort ?body (ksk_l1 _ _)))
 case body=>
  show Qu (model prog w) A.in1.in1 (Builtin.«list.sort» ⟨[.ref h1.objs.size],[(Str.ofString "key",.ref f)]⟩) _ _ _;rw[ksk_t1];refine Bo (s:={s with heap:=h1.push (seqObj "list" vs.toArray 0),toks:=tk}) hoL h64 hl hsh (λi v h' tk' Q' hv hk hq=>hc i v h' tk' Q' hv (λc o e=>hk c o (ne c o e) (k2 c o e)) hq) λp h' e tk' hp hu hk he=>⟨_,rfl,?_⟩
  refine QC ⟨_,rfl,?_⟩;exact h p h1 h' h1.objs.size e tk' hp hu k1 (λb o q=>hk b o (Mq (PD q)) (PJ _ q)) (MC _) he
end
end TG
namespace TG
open PySem PySem.Spec PyProof.Rows PySem.W L2
variable[bc]
abbrev cutE(row many:Str)(np mp p2 pos:Pos):Qv:=.Subscript (.Name row np) (.Slice none (some (.Name many mp)) none p2) pos
section
variable{prog:Qi}{w:Qh}{A:Qr}{E:Qg->Qs->Prop}{s:Qs}
theorem B4{env:Env}{row many:Str}{np mp p2 pos:Pos}{r c:Qj}{items:Array Qg}{i:Int}{t:Tok}{m:Str->Option Qg}{Q:Qg->Qs->Prop}
  (hk:env.scope.kind=.function) (hr:env.kindOf row=some .local) (hm:env.kindOf many=some .free) (hn:s.heap.Ns env.locals m) (hrow:m row=some (.ref r)) (hc:env.cells.lookup many=some c) (hcell:s.heap.IsCell c (some (.int i t)))
  (ht:Qn s.heap r items) (hz:items.size<=Qm) (d1:(row==("__debug__":Str))=false) (d2:(many==("__debug__":Str))=false) (d3:(many==("__classdict__":Str))=false)
  (h:∀b h',(∀c o,s.heap.get? c=some o->h'.get? c=some o)->Qn h' b (List.toArray (items.toList.take (HT.sIx items.size items.size (some i))))->Q (.ref b) {s with heap:=h'}):
  Qu (model prog w) A (eval (cutE row many np mp p2 pos) env) Q E s:=by
 refine Q7 (Qz (wpAny_loadName_local hk hr hn hrow ?_) d1);refine wpAny_Slice ?_;rw[Q6,evalPart_some];refine QC (Qz (wpAny_loadName_free hk hm hc hcell ?_ d3) d2);refine QC ?_;have kp:∀c o,s.heap.get? c=some o->(s.heap.push {cls:=.type "slice",data:=.fields #[.none,.int i t,.none]}).get? c=some o:=λc o q=>PJ _ q;have ht':Qn (s.heap.push {cls:=.type "slice",data:=.fields #[.none,.int i t,.none]}) r items:=by
  obtain⟨o,e,q⟩:=ht;exact⟨o,kp _ _ e,q⟩
 have hs:(s.heap.push {cls:=.type "slice",data:=.fields #[.none,.int i t,.none]}).IsSliceOf s.heap.objs.size .none (.int i t) .none:=Heap.IsSliceOf.new ..
 show Qu (model prog w) A (subscriptTail (.Name row np) (.Slice none (some (.Name many mp)) none p2) (.ref r) (.ref s.heap.objs.size)) Q E {s with heap:=s.heap.push {cls:=.type "slice",data:=.fields #[.none,.int i t,.none]}};refine tail_any (ops:=[.ref s.heap.objs.size,.ref r]) ht'.typeIs slot_tuple_getitem.lookup ?_ (by with_unfolding_all rfl);by_cases hw:HT.sIx items.size 0 none=0/\HT.sIx items.size items.size (some i)=items.size
 ·refine iu (s:={s with heap:=s.heap.push {cls:=.type "slice",data:=.fields #[.none,.int i t,.none]}}) ht' hs .none (.int i t) hw ?_;refine h r _ kp ?_;rw[hw.2]
  have:items.toList.take items.size=items.toList:=Oh (by simp)
  rw[this]
  simpa using ht'
 ·refine HT.zj (s:={s with heap:=s.heap.push {cls:=.type "slice",data:=.fields #[.none,.int i t,.none]}}) ht' hs .none (.int i t) hw ?_ hz;refine h _ _ (λc o q=>PJ _ (kp c o q)) ?_;have e0:HT.sIx items.size 0 none=0:=rfl;rw[e0,Nm,ND];exact⟨_,PK _ rfl,rfl,_,rfl⟩
theorem Cz{f c' cc r:Qj}{row many qual:Str}{params:QU}{scope:Qt}{np mp p2 pos:Pos}{pm ctv:Qg}{items:Array Qg}{i:Int}{t:Tok}{Q:Qg->Qs->Prop}
  (hf:s.heap.get? f=some (RD "<lambda>" qual params (cutE row many np mp p2 pos) scope [(many,cc)] pm c' ctv)) (hcd:s.heap.CodeRec (.ref c') qual) (hroom:A.depth<QP) (hlim:s.heap.NoLimit)
  (hbind:∀v,bindArgs (kla_fn "<lambda>" qual params (cutE row many np mp p2 pos) scope [(many,cc)] pm (.ref c') ctv) ⟨[v],[]⟩=pure [(row,v)])
  (hco:scope.isCoroutine=false) (hgen:scope.isGenerator=false) (hk:scope.kind=.function) (hno:∀x∈scope.names,x.2≠.cell) (hr:scope.names.lookup row=some .local) (hm:scope.names.lookup many=some .free)
  (hcell:s.heap.IsCell cc (some (.int i t))) (ht:Qn s.heap r items) (hz:items.size<=Qm) (d1:(row==("__debug__":Str))=false) (d2:(many==("__debug__":Str))=false) (d3:(many==("__classdict__":Str))=false)
  (h:∀b h' tk,(∀c o,s.heap.get? c=some o->h'.get? c=some o)->Qn h' b (List.toArray (items.toList.take (HT.sIx items.size items.size (some i))))->Q (.ref b) {s with heap:=h',toks:=tk}):
  Qu (model prog w) A (call (.ref f) [.ref r]) Q E s:=by
 refine wpAny_call (kla_callFunE hroom hf rfl hco hgen rfl hcd ?_);rw[hbind];refine QC (wpAny_newFunctionEnv hno (λx hx=>?_) (λh₁ hns hsb=>⟨hlim.fresh _ hsb,?_⟩) hk)
 ·rw[Oi]at hx;subst hx;exact hr
 ·show QM _ _ (.expr (cutE row many np mp p2 pos) (envX qual scope s.heap.objs.size f (.ref c') [(many,cc)])) _ _;have hk₁:∀b o,s.heap.get? b=some o->h₁.get? b=some o:=λb o e=>hsb.extBut b o (Mq (PD e)) (PJ _ e);refine kla_codeExpr (B4 (m:=λx=>[(row,Value.ref r)].reverse.lookup x) (r:=r) (c:=cc) (t:=t) hk hr hm hns ?_ ?_ ?_ ?_ hz d1 d2 d3 λb h' kp tb=>h b h' _ (λc o e=>kp c o (hk₁ c o e)) tb)
  ·simp
  ·simp
  ·obtain⟨o,e,q⟩:=hcell;exact⟨o,hk₁ _ _ e,q⟩
  ·obtain⟨o,e,q⟩:=ht;exact⟨o,hk₁ _ _ e,q⟩
end
end TG
namespace TG
open PySem PySem.Spec PyProof.Rows PySem.W L2
variable[bc]
def Aw(mg:Str->Option Qg)(base:Ql)(c P:Qj):Prop:=CodeHd base c P/\∃bm ob,mg "__builtins__"=some (.ref bm)/\bm≠Qp/\base.get? bm=some ob/\ob.cls=.type "module"/\ob.dict=some Qp/\ob.data=.plain
section
variable{fs ex:List Qj}{Pg:Qi}{w:Qh}{H:Hp}{h h':Ql}{P c':Qj}{φ:(Qj->Prop)->Ql->Prop}
theorem FU(hP:H P=some (.ext φ))(k:∀b o,b≠P->h.get? b=some o->h'.get? b=some o)(hp:∃o,h'.get? P=some o)(hc:h.objs.size<=c')(hn:H c'=none):Un fs ex H (upd H c' (.own P)) h h' where
 keep:=λb u q n _ _=>k b u (λz=>by rw[z,hP]at n;cases n) q
 slot:=λb u q n _ _=>⟨u.slots,k b u (λz=>by rw[z,hP]at n;cases n) q⟩
 free:=λb u q n _=>by rw[aM (Mq (Mo (PD q) hc))];exact n
 there:=λb u q _=>by
  by_cases z:b=P
  ·rw[z];exact hp
  ·exact⟨u,k b u z q⟩
 tups:=λb xs q=>by rw[aM (bd q hn)];exact q
 frzs:=λb u xs q=>by rw[aM (bd q hn)];exact q
 tbls:=λb ps q=>⟨#[],by rw[aM (bd q hn),q];simp⟩
theorem Em(x:oj Pg w H h)(hP:H P=some (.ext φ))(k:∀b o,b≠P->h.get? b=some o->h'.get? b=some o)(hc:h.objs.size<=c')(ho:∃o,h'.get? c'=some o)(new:cJ Pg w (upd H c' (.own P)) h' P (.ext φ)):oj Pg w (upd H c' (.own P)) h':=λb u e=>by
 have hn:=x.fresh hc;by_cases hb:b=c'
 ·subst hb;rw[aZ]at e;cases e;exact ho
 ·rw[aM hb]at e;by_cases hb2:b=P
  ·subst hb2;rw[hP]at e;cases e;exact new
  ·refine(x b u e).stay (λc v hc' q=>k c v ?_ q) (λc q=>by rw[aM (bd q hn)];exact q) λc xs q=>by rw[aM (bd q hn)];exact q
   rcases hc' with rfl|hc'
   ·exact hb2
   ·rintro rfl;rw[hP]at hc';cases hc'
end
theorem Aw.blt{mg:Str->Option Qg}{base h:Ql}{c P:Qj}{m:Str->Option Qg}(B:Aw mg base c P)(kp:∀b o,base.get? b=some o->h.get? b=some o)(hP:base.get? P=none)(hg:base.Ns Qo m):h.BuiltinsAt mg P:=by
 obtain⟨_,bm,ob,b1,b2,b3,b4,b5,b6⟩:=B;refine⟨bm,ob,b1,b2,λz=>?_,λz=>?_,kp _ _ b3,b4,b5,b6⟩
 ·subst z;obtain⟨o,es,ep,e,hd,_⟩:=hg;rw[e]at b3;cases b3;rw[hd]at b6;cases b6
 ·subst z;rw[hP]at b3;cases b3
section
variable{X:Cx}{pins:List (Qj×Obj)}{s:Qs}{σ:L2.St}{H:Hp}{E:Qg->Qs->Prop}
theorem Cy{c P:Qj}{lpos:Pos}{params:QU}{body:Qv}{scope:Qt}{clos:List (Str×Qj)}{Q:Qg->Qs->Prop}(I:Inv X pins σ H s)(B:Aw X.mg X.base c P)(hcode:X.env.code=.ref c)(hP:H P=some (.ext (ow P lpos (X.env.qual++"<lambda>"))))
  (hdef:defaultsOf params X.env=([],[])) (hcl:closureFor scope X.env=pure clos)
  (h:∀f c' ctv s' H',Inv X pins σ H' s'->bz H H'->s'.heap.get? f=some (RD "<lambda>" (X.env.qual++"<lambda>") params body scope clos ((X.mg "__name__").getD .none) c' ctv)->s'.heap.CodeRec (.ref c') (X.env.qual++"<lambda>")->Q (.ref f) s'):
  Qu (model X.prog X.w) X.A (eval (.Lambda params body scope lpos) X.env) Q E s:=by
 have hg:s.heap.Ns Qo X.mg:=I.mod.glob.keeps I.bk;have hPn:X.base.get? P=none:=by
  cases q:X.base.get? P with
  |none=>rfl
  |some o=>have:=(I.bs P o q).2;rw[hP]at this;cases this
 have hgP:Qo≠P:=λz=>by
  obtain⟨o,es,ep,e,_⟩:=I.mod.glob;rw[z,hPn]at e;cases e
 have hb:=B.blt I.bk hPn I.mod.glob;have C:=B.1.keeps I.bk;obtain⟨tb,_,_⟩:=I.hok P _ hP;refine kla_eval hdef ?_;rcases tb with e|⟨c',hc',e,hrec⟩
 ·refine kla_makeFunction hcl I.ok.glob hg hcode C e trivial rfl hgP hb λc' ctv h' tk hx hge hlt hrec htb=>?_;have hn:=I.hok.fresh hge;have htb':h'.get? P=some (tabObj #[rawInt lpos.line,rawInt lpos.col,.ref c']):=by simpa using htb
  have kp:∀b o,b≠P->s.heap.get? b=some o->(h'.push (RD "<lambda>" (X.env.qual++"<lambda>") params body scope clos ((X.mg "__name__").getD .none) c' ctv)).get? b=some o:=λb o hb' q=>PJ _ (hx b o hb' q);have hrec':(h'.push (RD "<lambda>" (X.env.qual++"<lambda>") params body scope clos ((X.mg "__name__").getD .none) c' ctv)).CodeRec (.ref c') (X.env.qual++"<lambda>"):=by
   obtain⟨c2,oc,vs,t,ec,eo,r⟩:=hrec;exact⟨c2,oc,vs,t,ec,PJ _ eo,r⟩
  have hco:∃o,(h'.push (RD "<lambda>" (X.env.qual++"<lambda>") params body scope clos ((X.mg "__name__").getD .none) c' ctv)).get? c'=some o:=by
   obtain⟨c2,oc,vs,t,ec,eo,r⟩:=hrec;cases ec;exact⟨oc,PJ _ eo⟩
  refine h _ c' ctv _ (upd H c' (.own P)) (I.un (FU hP kp ⟨_,PJ _ htb'⟩ hge hn) (Em I.hok hP kp hge hco (ow.ok (.inr ⟨c',aZ,PJ _ htb',hrec'⟩)))) (bW hn _) (PK _ rfl) hrec'
 ·refine kla_makeFunctionHit (cv:=.ref c') hcl I.ok.glob hg hcode C e trivial ?_ hb λctv h' tk hk hsz=>?_
  ·show(if((lpos.line:Int)==(lpos.line:Int)&&(lpos.col:Int)==(lpos.col:Int))=true then some (Value.ref c')else _)=_;simp
  ·have kp:∀b o,s.heap.get? b=some o->(h'.push (RD "<lambda>" (X.env.qual++"<lambda>") params body scope clos ((X.mg "__name__").getD .none) c' ctv)).get? b=some o:=λb o q=>PJ _ (hk b o q);refine h _ c' ctv _ H (I.kept kp) (bz.refl H) (PK _ rfl) ?_;obtain⟨c2,oc,vs,t,ec,eo,r⟩:=hrec;exact⟨c2,oc,vs,t,ec,kp _ _ eo,r⟩
end
def sJ(m:Nat):D->List D
 |.tup ks=>ks.take m
 |_=>[]
def HQ(m:Nat)(xs:List D):Prop:=xs.length<64/\∃σ:List Bool,σ≠[]/\(∀x∈xs,∃k,x=.tup k/\Sh σ (k.take m))/\xs.Pairwise λx y=>sJ m x≠sJ m y
open Classical in
noncomputable def rZ(m:Nat)(xs:List D):Option D:=if HQ m xs then some (.lst (iV (sJ m) xs))else none
noncomputable def oR:D->D->Option D
 |.lst xs,.int i=>if 0<=i then rZ i.toNat xs else none
 |.tup xs,.int i=>if 0<=i then rZ i.toNat xs else none
 |_,_=>none
theorem uk:∀{vs:List V}{us:List Qg}(n:Nat),Vals vs us->Vals (vs.take n) (us.take n)
 |_,_,0,_=>by rw[Nj,Nj];exact .nil
 |_,_,_+1,.nil=>.nil
 |_,_,n+1,.cons r t=>by rw[Nk,Nk];exact .cons r (uk n t)
theorem Ea{i:Int}(h:0<=i)(n:Nat):HT.sIx n n (some i)=min i.toNat n:=by
 show(if i<0 then _ else _)=_;rw[if_neg ‹0›]
theorem iA:Qq "sorted"=some (.builtin "sorted"):=by first|rfl|decide +kernel
section
variable{X:Cx}{pins:List (Qj×Obj)}{s:Qs}{σ:L2.St}{H:Hp}{O:List Qj}
theorem xS{u:Qg}{ds:List D}{vs:List V}{its:List Qg}{d:D}{i:Int}{t:Tok}{c' cc f:Qj}{row many qual:Str}{params:QU}{scope:Qt}{np mp p2 pos:Pos}{pm ctv:Qg}{Q:VK}
  (I:Inv X pins σ H s) (hO:dQ H O) (dn:bh X.K (hid H O) ds vs) (rv:Vals vs its) (h0:0<=i) (hs:rZ i.toNat ds=some d)
  (hf:s.heap.get? f=some (RD "<lambda>" qual params (cutE row many np mp p2 pos) scope [(many,cc)] pm c' ctv)) (hcd:s.heap.CodeRec (.ref c') qual) (hroom:X.A.depth<QP)
  (hbind:∀v,bindArgs (kla_fn "<lambda>" qual params (cutE row many np mp p2 pos) scope [(many,cc)] pm (.ref c') ctv) ⟨[v],[]⟩=pure [(row,v)])
  (hco:scope.isCoroutine=false) (hgen:scope.isGenerator=false) (hk:scope.kind=.function) (hno:∀x∈scope.names,x.2≠.cell) (hr:scope.names.lookup row=some .local) (hm:scope.names.lookup many=some .free)
  (hcell:s.heap.IsCell cc (some (.int i t))) (d1:(row==("__debug__":Str))=false) (d2:(many==("__debug__":Str))=false) (d3:(many==("__classdict__":Str))=false)
  (hcol:∀(Q':List Qg->Qs->Prop),(∀h' tk,(∀b o,s.heap.get? b=some o->h'.get? b=some o)->Q' its {s with heap:=h',toks:=tk})->Qu (model X.prog X.w) X.A.in1 (collect u) Q' X.xe s)
  (q:∀v H',bz H H'->cO X.K (hid H' O) d v->Q v H'):Qu (model X.prog X.w) X.A (call (.builtin "sorted") [u] [(Str.ofString "key",.ref f)]) (EP X pins σ Q) X.xe s:=by
 have l1:=dn.length;have l2:=rv.length;unfold rZ at hs;split at hs
 ·rename_i hS;cases hs;obtain⟨h64,σ',hσ,hsh,pw⟩:=hS;obtain⟨b,σ1,rfl⟩:∃b σ1,σ'=b::σ1:=by
   cases σ' with
   |nil=>exact absurd rfl hσ
   |cons b σ1=>exact⟨b,σ1,rfl⟩
  have hsh':∀x∈ds,Sh (b::σ1) (sJ i.toNat x):=λx hx=>by
   obtain⟨k,rfl,hk⟩:=hsh x hx;exact hk
  refine xj (keys:=ds.map (sJ i.toNat)) (σ:=σ1) (b:=b) ‹0› (by rw[MS];omega) (λk hk=>by obtain⟨x,hx,rfl⟩:=List.mem_map.mp hk;exact hsh' x hx) hcol (λj v h' tk Q' hv kp hq=>?_) λp h1 h' l e tk hp hu k1 k2 hl he=>?_
  ·have hj:j<its.length:=by
    rcases Of j its.length with z|z
    ·exact z
    ·rw[Og z]at hv;cases hv
   have hj':j<ds.length:=(by omega);obtain⟨v0,e1,dv⟩:=dn.get (i:=j) (d:=ds[j]) (by simp[hj']);obtain⟨w,e2,rw'⟩:=rv.get e1;rw[hv]at e2;cases e2;obtain⟨k,ek,hk'⟩:=hsh _ (N8 hj');have ekey:(ds.map (sJ i.toNat)).getD j []=k.take i.toNat:=by
    have:(ds.map (sJ i.toNat)).getD j []=sJ i.toNat ds[j]:=(by simp[hj']);rw[this,ek];rfl
   rw[ekey]at hq;rw[ek]at dv;obtain⟨a,ws,rfl,ha,dk⟩:=cD.mp dv;cases rw';obtain⟨it2,r2,ht,hz⟩:=I.tuple (bZ (aI H O) ha);have hz':it2.toArray.size<=Qm:=(by rw[MF,<-r2.length];exact hz);refine Cz (s:={s with heap:=h',toks:=tk}) (i:=i) (t:=t) (kp _ _ hf) ?_ hroom (I.nolimit.keeps kp) hbind hco hgen hk hno hr hm ?_ (items:=it2.toArray) ?_ hz' d1 d2 d3 λb2 h'' tk' kp2 tb=>?_
   ·obtain⟨c2,oc,vs',t',ec,eo,r⟩:=hcd;exact⟨c2,oc,vs',t',ec,kp _ _ eo,r⟩
   ·obtain⟨o,e,q⟩:=hcell;exact⟨o,kp _ _ e,q⟩
   ·obtain⟨o,e,q⟩:=ht;exact⟨o,kp _ _ e,q⟩
   ·refine hq _ h'' tk' kp2 ?_;obtain⟨o,eo,hc,n,hd⟩:=tb;refine⟨b2,o,_,n,rfl,eo,hc,hd,?_⟩;have e3:(List.toArray (it2.toArray.toList.take (HT.sIx it2.toArray.size it2.toArray.size (some i)))).toList=it2.take i.toNat:=by
     rw[Ea h0];simp only[MF,Oe];rcases Oj i.toNat it2.length with z|z
     ·rw[Ol z]
     ·rw[Om z,Oh (MC _),Oh z]
    rw[e3];exact jM (qc hk') (dk.take i.toNat) (uk i.toNat r2)
  ·have el:its.length=ds.length:=(by omega);rw[el]at hp hu;have ps:=pW (key:=sJ i.toNat) hsh' pw hp hu;have hr:p.toList.Perm (List.range ds.length):=by
    have:=Array.perm_iff_toList_perm.mp hp
    simpa using this
   have hlt:∀i∈p.toList,i<ds.length:=λi hi=>by simpa using hr.mem_iff.mp hi
   have I1:Inv X pins σ H {s with heap:=h1,toks:=tk}:=I.kept k1;have hn:H l=none:=I1.hok.fresh hl;have rv':=oy rv p.toList λi hi=>by have:=hlt i hi;omega
   have dn':=pB dn p.toList hlt;have hlen:p.toList.length=ds.length:=(by rw[hr.length_eq,NB]);refine⟨.ref l,_,Inv.laid (s:={s with heap:=h1,toks:=tk}) (t':=tk) I1 k2 hl (show cJ X.prog X.w _ h' _ (.lst (p.toList.map λi=>vs.getD i .non))from⟨by rw[MS,hlen,QL];omega,_,e,rv',he⟩),rfl,?_⟩;refine q _ _ (bW hn _) ?_;rw[<-ps];exact dh hO hn dn'
 ·cases hs
theorem Ih{f:FX}{j:Nat}{k:Nat}{c P cc:Qj}{e:Qv}{p lpos kp pos np mp p2 spos:Pos}{row many:Str}{params:QU}{scope:Qt}
  (hr:iB k X.A) (hg:Gl X "sorted") (hm:X.mg "sorted"=none) (B:Aw X.mg X.base c P) (hcode:X.env.code=.ref c) (hT:∀H,bc.tab H->H P=some (.ext (ow P lpos (X.env.qual++"<lambda>"))))
  (he:FE X e f) (hN:X.N[j]?=some many) (hkm:X.env.kindOf many=some .cell) (hv:Gi X.env.scope many) (hcc:X.env.cells.lookup many=some cc) (hcl:closureFor scope X.env=pure [(many,cc)]) (hdef:defaultsOf params X.env=([],[]))
  (hbind:∀cdv ctv v,bindArgs (Pw "<lambda>" (X.env.qual++"<lambda>") params (cutE row many np mp p2 spos) scope [(many,cc)] ((X.mg "__name__").getD .none) cdv ctv) ⟨[v],[]⟩=pure [(row,v)])
  (hco:scope.isCoroutine=false) (hgen:scope.isGenerator=false) (hk:scope.kind=.function) (hno:∀x∈scope.names,x.2≠.cell) (hlr:scope.names.lookup row=some .local) (hlm:scope.names.lookup many=some .free)
  (d1:(row==("__debug__":Str))=false) (d2:(many==("__debug__":Str))=false) (d3:(many==("__classdict__":Str))=false) (hns:noStar e=true:=by rfl):
  FE X (.Call (.Name "sorted" p) [e] [⟨some "key",.Lambda params (cutE row many np mp p2 spos) scope lpos,kp⟩] pos) (f2 oR f (ah j)):=by
 intro pins s σ H Q I ⟨O,ρ,E,hF⟩;refine QV (lx I hg hm iA ?_);have st:backTo pos (Qw [e] X.env)=(false,eval e X.env)::backTo pos (Qw [] X.env):=by rw[e7 hns];rfl
 refine PyProof.Rows.callWith_kw ?_ ?_ (iN (by rw[Np,hns];rfl))
 ·refine eJ (mQ he oE (e7 hns) pos pins s σ H (λvs H1=>∃v d a m,vs=[v]/\bz H H1/\ρ[j]?=some (some (.val m))/\oR a m=some d/\cO X.K (hid H1 O) a v/\∀v H',bz H H'->cO X.K (hid H' O) d v->Q v H') I ⟨O,ρ,E,(iX.bind hF).imp λa hF v H1 s1 d1=>?_⟩) λus s1 ⟨vs,H1,I1,rv,v,d,a,m,ev,s1',em,hd,dn,q⟩=>?_
  ·obtain⟨m,em,hF⟩:=tR (iX.bind hF);obtain⟨d,e,q⟩:=iX.rO hF;exact⟨v,d,a,m,rfl,s1,em,e,d1,q⟩
  ·subst ev;obtain⟨u,eu,ru⟩:=vals1 rv;subst eu;have E1:=E.same s1';show Qu _ _ (evalAll ((do let v<-eval (.Lambda params (cutE row many np mp p2 spos) scope lpos) X.env;standAt pos;pure v)::[])) _ _ s1;refine wpAny_evalAll_cons (QD (Cy I1 B hcode (hT _ E1.all.1) hdef hcl λfa c' ctv s2 H2 I2 s2' hfa hcr=>QD (Rb (QC (wpAny_evalAll_nil ?_)))));show Qu (model X.prog X.w) X.A (call (.builtin "sorted") [u] [(Str.ofString "key",.ref fa)]) (EP X pins σ Q) X.xe s2;have E2:=E1.same s2';obtain⟨vm,e3,dm⟩:=E2.val j m em;have core:∀(i:Int)(xs:List D),m=.int i->0<=i->rZ i.toNat xs=some d->∀(ys:List V)(its:List Qg),bh X.K (hid H2 O) xs ys->Vals ys its->
     (∀(Q':List Qg->Qs->Prop),(∀h' tk,(∀b o,s2.heap.get? b=some o->h'.get? b=some o)->Q' its {s2 with heap:=h',toks:=tk})->Qu (model X.prog X.w) X.A.in1 (collect u) Q' X.xe s2)->
     Qu (model X.prog X.w) X.A (call (.builtin "sorted") [u] [(Str.ofString "key",.ref fa)]) (EP X pins σ Q) X.xe s2:=by
    intro i xs ei h0 hs ys its dl ri hcol;subst ei;rw[eZ]at dm;subst dm;obtain⟨mm,hns',hl⟩:=I2.loc;obtain⟨uv,ruv,lk⟩:=hl j many (.int i) hN e3 hv;obtain⟨t,rfl⟩:=ruv;have hcell:s2.heap.IsCell cc (some (.int i t)):=by
     rcases lk with⟨z,_⟩|⟨_,c2,ec,hc2⟩
     ·rw[hkm]at z;cases z
     ·rw[hcc]at ec;cases ec;exact hc2
    have dp:=hr.dp;exact xS I2 E2.all dl ri h0 hs hfa hcr ‹0› (λv=>hbind (.ref c') ctv v) hco hgen hk hno hlr hlm hcell d1 d2 d3 hcol λv H' sm dd=>q v H' ((s1'.trans s2').trans sm) dd
   have dn2:=dn.mono (cw (O:=O) s2');unfold oR at hd;split at hd
   ·rename_i xs i;split at hd
    ·rename_i h0;obtain⟨l,ys,el,g1,g2⟩:=cE.mp dn2;subst el;cases ru;obtain⟨its,ri,pl,hz⟩:=I2.list ((aI H2 O).seq g1);have hlen:=ri.length;obtain⟨o,ho,hc,n,hd'⟩:=pl.isList;exact core i xs rfl h0 hd ys its g2 ri λQ' hQ=>RC l (.inl rfl) ho hc hd' (λh' k=>by simpa using hQ h' s2.toks k) (by simp only[MF]<;>omega)
    ·cases hd
   ·rename_i xs i;split at hd
    ·rename_i h0;obtain⟨l,ys,el,g1,g2⟩:=cD.mp dn2;subst el;cases ru;obtain⟨its,ri,⟨o,ho,hc,n,hd'⟩,hz⟩:=I2.tuple (bZ (aI H2 O) g1);have hlen:=ri.length;exact core i xs rfl h0 hd ys its g2 ri λQ' hQ=>RC l (.inr rfl) ho hc hd' (λh' k=>by simpa using hQ h' s2.toks k) (by simp only[MF]<;>omega)
    ·cases hd
   ·cases hd
 ·exact st
end
end TG
namespace TG
open PySem PySem.Spec PyProof.Rows PySem.W L2
section
variable[bc]{P:Qi}{w:Qh}{K:OZ}{mg:Str->Option Qg}{base:Ql}
def ut(K:OZ)(f:Qj)(cdv:Qg):Prop:=∃oc od fd sl,K.lookup f=some ⟨oc,od,.func fd,sl⟩/\fd.code=cdv
theorem ut.one{f:Qj}{a b:Qg}(h:ut K f a)(h':ut K f b):a=b:=by
 obtain⟨oc,od,fd,sl,e,r⟩:=h;obtain⟨oc',od',fd',sl',e',r'⟩:=h';rw[e]at e';cases e';rw[<-r,<-r']
structure uP(P:Qi)(w:Qh)(K:OZ)(mg:Str->Option Qg)(base:Ql)(k:Nat)(N:List Str)(qual:Str)(st:Qx)(f:Qj)(B:cx):Prop where
 h:∀(cdv:Qg)(A:Qr)(outer:List Env)(s:Qs)(H:Hp)(E:XK),ut K f cdv->iB k (A.deeper (envOfC qual (aA st) s.heap.objs.size f cdv))->QF (model P w) (A.deeper (envOfC qual (aA st) s.heap.objs.size f cdv)) (envOfC qual (aA st) s.heap.objs.size f cdv) (kz (nF P w) P w K mg base N qual (aA st) f cdv A outer s H E).xe->
  xB (kz (nF P w) P w K mg base N qual (aA st) f cdv A outer s H E) (fT st) B
theorem BE{x qual:Str}{st:Qx}{f:Qj}{fd:QR}{N ps:List Str}{k:Nat}{B:cx}(F:xC K x qual st f fd)(SC:bq N ps (aA st))(hb:uP P w K mg base k N qual st f B):
  mU P w K mg base (nF P w) (k+1) f fd ps (Bd K ps.length (bi B ps.length N.length)):=by
 obtain⟨oc,od,kV,doc,pm,an,cd,ct,osl,rfl,lk,hcd⟩:=F.ex;refine Fo lk hcd SC (λvs H Q E h=>?_) λA outer s H vs Q E hr h=>?_
 ·obtain⟨O,ds,h1,_⟩:=h;exact h1
 ·obtain⟨O,ds,h1,h2,h3,h4⟩:=h;have hl:ds.length=ps.length:=h3.length.trans h1;have e4:bi B ps.length N.length ds=B K0 (env0 N.length ds):=by unfold bi;rw[if_pos hl]
  rw[e4]at h4;refine⟨_,hb.h cd A outer s H E ⟨_,_,_,_,lk,rfl⟩ hr PassesOwn.leaving H O,O,env0 N.length ds,K0,_,⟨qK h2 h3,⟨bz.refl H,λ_ z=>z,λa z=>.inl z⟩,λi xs a e=>?_,λi d e=>by obtain⟨d',_,e2⟩:=iR i _ e;cases e2⟩,rfl,?_⟩
  ·obtain⟨d',_,e2⟩:=iR i _ e;cases e2
  ·generalize B K0 (env0 N.length ds)=r at h4;refine⟨λz=>by rw[z]at h4;exact h4,λO' ρ' σ' H' S e=>?_,λO' ρ' σ' H' S e=>?_,λO' ρ' σ' H' S e=>?_,λd O' v H' e b dv=>?_,λO' ρ' σ' H' x S e=>?_⟩
   ·have e:(.ok .non:R D)=r:=e;subst e;exact h4 .non H' S.base.same (j6.mpr rfl)
   ·have e:(un:R D)=r:=e;subst e;exact h4.elim
   ·have e:(un:R D)=r:=e;subst e;exact h4.elim
   ·subst e;exact h4 v H' b.same (dv.mono (iP b.sub))
   ·have e:(.error (some x):R D)=r:=e;subst e;exact Bw h4 S.base.same S.base.sub
theorem yI{x qual:Str}{st:Qx}{f:Qj}{fd:QR}{N ps:List Str}{k:Nat}{B:cx}(F:xC K x qual st f fd)(b:Binds K fd ps [])(m:mg x=some (.ref f))(SC:bq N ps (aA st))(hb:uP P w K mg base k N qual st f B):
  Callee P w K mg base (k+1) x ps (bi B ps.length N.length):=⟨f,fd,BE F SC hb,b,F.kp,m⟩
end
def yq(mg:Str->Option Qg)(base:Ql):Prop:=∃bm ob,mg "__builtins__"=some (.ref bm)/\bm≠Qp/\base.get? bm=some ob/\ob.cls=.type "module"/\ob.dict=some Qp/\ob.data=.plain
theorem D4{K:OZ}{mg:Str->Option Qg}{base:Ql}{c P:Qj}(X:K.In base)(e:codeHdIn K c P=true)(b:yq mg base):Aw mg base c P:=⟨codeHd_of_K X e,b⟩
theorem Dz{P:Qi}{w:Qh}{K:OZ}{mg mb:Str->Option Qg}{CX:Bc}{k:Nat}{fa a c T:Qj}{lpos:Pos}{q:Str}{fd:QR}{x:Str}{sp:Sp}{s₁:Qs}{vs:List Qg}{ns:List Int}
  (KX:K.In s₁.heap) (hns:s₁.heap.Ns Qo mg) (hb:s₁.heap.Ns Qp mb) (hbb:∀x:Str,x≠"__name__"->mb x=Qq x) (hlim:s₁.heap.NoLimit) (hg:s₁.gens=#[]) (hbm:yq mg s₁.heap)
  (hT:s₁.heap.get? T=some (tabObj #[])) (hC:codeHdIn K c T=true) (hKT:K.lookup T=none)
  (ha:s₁.heap.get? a=some {cls:=.type "list",data:=.seq vs.toArray}) (hi:IntsAre vs ns) (hl:ns.length<=Qm) (hr:iB k callerA)
  (F:∀base:Ql,K.In base->base.Ns Qo mg->yq mg base->mU P w K mg base CX k fa fd [x] sp) (hbind:∀(s:Qs)(u:Qg),QS s fd ⟨[u],[]⟩ [(x,u)])
  (hsp:∀H:Hp,H T=some (.ext (ow T lpos q))->nG K H a (ns.map V.int)->sp [.ref a] H (λv H'=>v=.bl true/\bz H H') λ_ _ _=>False)
  (hCX:∀H e s',CX [] H s₁ (λ_ _ _=>False) e s'->False):
  QM (model P w) callerA (.call (.ref fa) ⟨[.ref a],[]⟩) (λr s'=>r=.ok (.ret (.bool true))/\OldK s₁.heap s'.heap/\s'.os=s₁.os/\AllBare s'.gens) s₁:=by
 have rv:=uc hi;have lenV:=hi.length;have aT:a≠T:=λz=>by rw[z,hT]at ha;cases ha
 obtain⟨H,hH⟩:∃H:Hp,H=λb=>if b=T then some (.ext (ow T lpos q))else if b=a/\(K.lookup a).isNone=true then some (.frz {cls:=.type "list",data:=.seq vs.toArray} (.lst (ns.map V.int)))else none:=⟨_,rfl⟩
 have hHT:H T=some (.ext (ow T lpos q)):=by rw[hH];exact if_pos rfl
 have cases':∀b u,H b=some u->(b=T/\u=.ext (ow T lpos q))\/(b=a/\K.lookup a=none/\u=.frz {cls:=.type "list",data:=.seq vs.toArray} (.lst (ns.map V.int))):=λb u e=>by
  rw[hH]at e;by_cases z:b=T
  ·have e:=(if_pos z).symm.trans e;cases e;exact .inl ⟨z,rfl⟩
  ·have e:=(if_neg z).symm.trans e;by_cases z':b=a/\(K.lookup a).isNone=true
   ·have e:=(if_pos z').symm.trans e;cases e;exact .inr ⟨z'.1,by simpa using z'.2,rfl⟩
   ·have e:=(if_neg z').symm.trans e;cases e
 have free:∀b o,s₁.heap.get? b=some o->o.cls≠.none->o.cls≠.type "list"->H b=none:=λb o e h1 h2=>by
  cases z:H b with
  |none=>rfl
  |some u=>
   rcases cases' b u z with⟨e1,_⟩|⟨e1,_⟩
   ·rw[e1,hT]at e;cases e;exact absurd rfl h1
   ·rw[e1,ha]at e;cases e;exact absurd rfl h2
 have freeD:∀b o es ep,s₁.heap.get? b=some o->o.data=.dict es ep->H b=none:=λb o es ep e d=>by
  cases z:H b with
  |none=>rfl
  |some u=>
   rcases cases' b u z with⟨e1,_⟩|⟨e1,_⟩
   ·rw[e1,hT]at e;cases e;cases d
   ·rw[e1,ha]at e;cases e;have d':Data.seq vs.toArray _=Data.dict es ep:=d;cases d'
 have hS:nG K H a (ns.map V.int):=by
  cases hk:K.lookup a with
  |some o=>
   have e:=KX a o hk;rw[ha]at e;cases e;exact .inr ⟨_,vs.toArray,_,hk,rfl,rfl,rfl,by rw[MF,lenV];exact hl,by simpa using rv⟩
  |none=>
   refine .inl (.inr ⟨{cls:=.type "list",data:=.seq vs.toArray},?_⟩);rw[hH];exact(if_neg aT).trans (if_pos ⟨rfl,by rw[hk];rfl⟩)
 have hok:oj P w H s₁.heap:=λb u e=>by
  rcases cases' b u e with⟨e1,e2⟩|⟨e1,_,e2⟩
  ·subst e1 e2;exact ow.ok (.inl hT)
  ·subst e1 e2;exact⟨ha,by rw[MS];exact hl,vs,_,rv,ha⟩
 have nsK:∀{b:Qj}{m:Str->Option Qg},s₁.heap.Ns b m->(uW s₁.heap H).Ns b m:=λ{b m} ⟨o,es,ep,e,d,r⟩=>⟨o,es,ep,qX e (freeD b o es ep e d),d,r⟩
 have hKb:K.In (uW s₁.heap H):=λb o e=>qX (KX b o e) (by
  cases z:H b with
  |none=>rfl
  |some u=>
   rcases cases' b u z with⟨e1,_⟩|⟨e1,e2,_⟩
   ·rw[e1,hKT]at e;cases e
   ·rw[e1,e2]at e;cases e)
 have hbm':yq mg (uW s₁.heap H):=by
  obtain⟨bm,ob,b1,b2,b3,b4,b5,b6⟩:=hbm;refine⟨bm,ob,b1,b2,qX b3 (free bm ob b3 ?_ ?_),b4,b5,b6⟩
  ·rw[b4];simp
  ·rw[b4];simp
 have hM:Mod K mg (uW s₁.heap H):=⟨hKb,nsK hns,⟨mb,nsK hb,hbb⟩,let ⟨mc,h1,h2⟩:=hlim;⟨mc,nsK h1,h2⟩⟩
 have e0:En P w K mg (uW s₁.heap H) callerA [] s₁ H:=⟨rfl,hM,λb o e=>DM e,MH (AH _ _),trivial,λb hb=>absurd (show b∈([]:List Qj)from hb) (by simp),hok,.of_eq hg⟩
 refine codeAny_mono ((F _ hKb (nsK hns) hbm').run callerA [] s₁ H ⟨[.ref a],[]⟩ [.ref a] [.ref a] _ _ hr e0 (hbind s₁ (.ref a)) (.cons rfl .nil) (hsp H hHT hS)) λr s' h=>?_;cases r with
 |error e=>exact(hCX H e s' h).elim
 |ok fl=>
  cases fl with
  |next=>exact False.elim h
  |brk=>exact False.elim h
  |cont=>exact False.elim h
  |ret u=>
   obtain⟨v,H',os,bare,unn,hok',r',q'⟩:=h;obtain⟨ev,sm⟩:v=.bl true/\bz H H':=q';subst ev;obtain rfl:u=Value.bool true:=r';have tb:=(hok' T _ (sm _ _ hHT)).1;obtain⟨ps,hps⟩:∃ps,s'.heap.get? T=some (tabObj ps):=by
    rcases tb with e|⟨_,_,e,_⟩
    ·exact⟨_,e⟩
    ·exact⟨_,e⟩
   have keep:∀b o,b≠T->s₁.heap.get? b=some o->s'.heap.get? b=some o:=λb o hb e=>by
    cases z:H b with
    |none=>exact unn.keep b o e z (by intro z;exact absurd (show b∈([]:List Qj)from z) (by simp)) (by simp)
    |some u=>
     rcases cases' b u z with⟨e1,_⟩|⟨e1,_,e2⟩
     ·exact absurd e1 hb
     ·subst e2;have z2:=sm _ _ z;obtain⟨e3,_⟩:=hok' b _ z2;rw[e1,ha]at e;cases e;exact e3
   refine⟨rfl,⟨λb o e=>?_,λb o e=>?_⟩,os,bare⟩
   ·by_cases hb:b=T
    ·subst hb;rw[hT]at e;cases e;exact .inr (.inl ⟨((codeHd_of_K KX hC).tab hT).isCodeTable,rfl,#[],ps,rfl,by rw[Array.empty_append];exact hps⟩)
    ·exact .inl (keep b o hb e)
   ·by_cases hb:b=T
    ·subst hb;exact⟨_,hps⟩
    ·exact⟨o,keep b o hb e⟩
theorem BK{l:Px}{n k:Nat}{q:Qi}{loose:List Str}{XP:(Str->Option Qg)->Ql->Prop}{YP:Qh->Ql->Prop}{d:DefRec}{K:Params->OZ}{CX:Qh->Bc}{sp:Qh->Sp}{x qn:Str}{T:Qj}{lpos:Pos}
  (hn:l.most=some n) (hn2:n<=Qm) (hdf:d.params.defaults=[]) (hr:iB k callerA)
  (hY:∀(w:Qh)(h:Ql),YP w h->(K w.params).In h/\h.get? T=some (tabObj #[]))
  (F:∀ (w:Qh) (mg:Str->Option Qg) (fa:Qj) (h:Ql),(K w.params).In h->h.Ns Qo mg->mg d.name=some (.ref fa) ->
   (∃c,codeHdIn (K w.params) c T=true)/\(K w.params).lookup T=none/\∃fd:QR,(∀(s:Qs)(u:Qg),QS s fd ⟨[u],[]⟩ [(x,u)])/\
    ∀base:Ql,(K w.params).In base->base.Ns Qo mg->yq mg base->mU l.prog w (K w.params) mg base (CX w) k fa fd [x] (sp w))
  (hsp:∀(w:Qh)(H:Hp)(a:Qj)(ns:List Int),ns.length<=n->H T=some (.ext (ow T lpos qn))->nG (K w.params) H a (ns.map V.int)->sp w [.ref a] H (λv H'=>v=.bl true/\bz H H') λ_ _ _=>False)
  (hCX:∀(w:Qh)(H:Hp)(s:Qs)(e:Qg)(s':Qs),CX w [] H s (λ_ _ _=>False) e s'->False):
  PySem.W.WalkO q loose XP YP l.row.toRowW d [] (λf vs=>PySem.call f vs):=by
 refine Att.EZ hn hdf λw s₀ s₁ mg mb fa o pm cd doc a vs ns G Y ho hd hcd hmg hobj hints hlen hg=>?_;obtain⟨KX,hT⟩:=hY w _ Y;obtain⟨⟨c,hC⟩,hKT,fd,hb,hF⟩:=F w mg fa _ KX G.T.g hmg;exact Dz KX G.T.g G.T.b G.T.builtins G.T.nolimit hg G.T.bmain hT hC hKT hobj hints (Mr hlen hn2) hr hF hb (λH hO hS=>hsp w H a ns hlen hO hS) λH e s'=>hCX w H s₁ e s'
open PySem PySem.Spec PySem.Calls L2
open PySem.SeqAt (EqAt list_indexAt)
variable[bc]
section
variable{X:Cx}{p pos:Pos}{e:Qv}
end
end TG
namespace TG
open PySem PySem.Spec L2
variable[bc]
end TG
namespace TG
open PySem PySem.Spec PySem.Calls L2
open PySem.SeqAt (EqAt list_countAt)
variable[bc]
def yt:=Hu (λ_ j=>decide (0<=j)) λi j=>i/2^j.toNat
theorem yh{K:OZ}:dW K (rI (λ_ j=>0<=j) λi j=>.int (i/2^j.toNat)) yt:=jK λ_ _ h=>of_decide_eq_true h
def sd:=E8 λi j=>.int (Builtin.bitAnd i j)
theorem xM{K:OZ}:dW K (CN λi j=>.int (Builtin.bitAnd i j)) sd:=qJ
def pM:List D->List D->Option (List (Key×D))
 |[],[]=>some []
 |k::ks,d::ds=>(keyOf k).bind λk=>(pM ks ds).map ((k,d)::·)
 |_,_=>none
abbrev ie(al:List (Key×D)):List D:=al.map λp=>bF p.1
abbrev xi(al:List (Key×D)):D:=.dct (ie al) (al.map (·.2))
theorem j4(k:Key):keyOf (bF k)=some k:=by cases k<;>rfl
theorem qN{a b:Key}(h:bF a=bF b):a=b:=by
 have e:=congrArg keyOf h;rw[j4,j4]at e;exact Option.some.inj e
theorem w8:∀{ks ds:List D}{al:List (Key×D)},pM ks ds=some al->ks=ie al/\ds=al.map (·.2)
 |[],[],_,h=>by cases h;exact⟨rfl,rfl⟩
 |k::ks,d::ds,al,h=>by
  unfold pM at h;cases e1:keyOf k with
  |none=>rw[e1]at h;cases h
  |some k'=>
   rw[e1]at h;cases e2:pM ks ds with
   |none=>rw[e2]at h;cases h
   |some al'=>
    rw[e2]at h;cases h;obtain⟨h1,h2⟩:=w8 e2;rw[ra e1,h1,h2];exact⟨rfl,rfl⟩
 |[],_::_,_,h=>by cases h
 |_::_,[],_,h=>by cases h
theorem sQ:∀al:List (Key×D),pM (ie al) (al.map (·.2))=some al
 |[]=>rfl
 |p::r=>by
  show(keyOf (bF p.1)).bind _=_;rw[j4];show(pM (ie r) (r.map (·.2))).map ((p.1,p.2)::·)=_;rw[sQ r];rfl
theorem tI:∀{al:List (Key×D)}{ks:List Key},ie al=ks.map bF->al.map (·.1)=ks
 |[],[],_=>rfl
 |p::r,k::ks,h=>by
  have h:bF p.1::ie r=bF k::ks.map bF:=h;injection h with h1 h2;rw[M0,qN h1,tI h2]
 |[],_::_,h=>by cases h
 |_::_,[],h=>by cases h
theorem Ln{K:OZ}{H:Hp}{O:List Qj}{a:Qj}{al:List (Key×D)}(h:eE K H O a (xi al)):
  (∃kvs:List (Key×V),H a=some (.dK kvs)/\kvs.map (·.1)=al.map (·.1)/\bh K (hid H O) (al.map (·.2)) (kvs.map (·.2)))\/(H a=some (.dT [])/\al=[]):=by
 obtain⟨o,vs,h1,h2,h3⟩:=h;rcases h3 with⟨kvs,e,e1,e2⟩|⟨kvs,e,e1,e2⟩
 ·subst e;refine .inl ⟨kvs,h1,?_,by rw[<-e2];exact h2⟩;exact(tI (ks:=kvs.map (·.1)) (by rw[Oc];exact e1)).symm
 ·subst e;cases kvs with
  |nil=>
   refine .inr ⟨h1,?_⟩
   simpa using e1
  |cons p r=>
   cases al with
   |nil=>cases e1
   |cons q r'=>
    have e1:bF q.1::ie r'=D.tup (p.1.map bF)::r.map (λp=>D.tup (p.1.map bF)):=e1;injection e1 with e1 _;rcases q with⟨k,v⟩
    cases k<;>cases e1
section
variable{κ:Type}[DecidableEq κ]
def qa(al:List (κ×D))(k:κ)(v:D):List (κ×D):=if(al.any λp=>decide (p.1=k))=true then al.map (λp=>if p.1=k then(p.1,v)else p)else al++[(k,v)]
theorem A5{kvs:List (κ×V)}{al:List (κ×D)}(e:kvs.map (·.1)=al.map (·.1))(k:κ)(w:V)(d:D):(putK kvs k w).map (·.1)=(qa al k d).map (·.1):=by
 have e2:(kvs.any λp=>decide (p.1=k))=(al.any λp=>decide (p.1=k)):=by
  have:=congrArg (λl=>l.any λq=>decide (q=k)) e
  simpa [Od,Function.comp_def]using this
 unfold putK qa;rw[e2];split
 ·have e3:∀(l:List (κ×V)),(l.map λkv=>if kv.1=k then(kv.1,w)else kv).map (·.1)=l.map (·.1):=λl=>by
   rw[Oc];refine Ny λp _=>?_;show(if p.1=k then(p.1,w)else p).1=p.1;split<;>rfl
  have e4:∀(l:List (κ×D)),(l.map λkv=>if kv.1=k then(kv.1,d)else kv).map (·.1)=l.map (·.1):=λl=>by
   rw[Oc];refine Ny λp _=>?_;show(if p.1=k then(p.1,d)else p).1=p.1;split<;>rfl
  rw[e3,e4,e]
 ·rw[Nz,Nz,e];rfl
theorem tx{K:OZ}{H:Hp}{k:κ}{w:V}{d:D}(hw:cO K H d w):∀{kvs:List (κ×V)}{al:List (κ×D)},kvs.map (·.1)=al.map (·.1)->bh K H (al.map (·.2)) (kvs.map (·.2))->
  bh K H ((al.map λp=>if p.1=k then(p.1,d)else p).map (·.2)) ((kvs.map λp=>if p.1=k then(p.1,w)else p).map (·.2))
 |[],[],_,h=>h
 |p::r,q::r',e,h=>by
  rw[M0,M0]at e;injection e with e1 e2;rw[M0,M0,bE]at h;obtain⟨v,ws,h0,h1,h2⟩:=h;injection h0 with h0 h0';subst h0 h0';have ih:=tx (k:=k) hw e2 h2;rw[M0,M0,M0,M0,bE];refine⟨_,_,rfl,?_,ih⟩;rw[e1];split
  ·exact hw
  ·exact h1
 |[],_::_,e,_=>by cases e
 |_::_,[],e,_=>by cases e
theorem Cm{K:OZ}{H:Hp}{k:κ}{w:V}{d:D}(hw:cO K H d w){kvs:List (κ×V)}{al:List (κ×D)}(e:kvs.map (·.1)=al.map (·.1))(h:bh K H (al.map (·.2)) (kvs.map (·.2))):
  bh K H ((qa al k d).map (·.2)) ((putK kvs k w).map (·.2)):=by
 have e2:(kvs.any λp=>decide (p.1=k))=(al.any λp=>decide (p.1=k)):=by
  have:=congrArg (λl=>l.any λq=>decide (q=k)) e
  simpa [Od,Function.comp_def]using this
 unfold putK qa;rw[e2];split
 ·exact tx hw e h
 ·rw[Nz,Nz];exact h.append (bE.mpr ⟨w,[],rfl,hw,cU.mpr rfl⟩)
end
def tL(ks ds:List D)(k v:D):Option (List (Key×D)):=(pM ks ds).bind λal=>(keyOf k).bind λk=>if small al.length then some (qa al k v)else none
def mY(i:Nat)(fk fv:FX):cx:=λk ρ=>match ρ[i]? with
 |some (some (.own (.dct ks ds)))=>si ((fv ρ).bind λv=>(fk ρ).bind λq=>rO (tL ks ds q v)) k ρ λal=>k.nx (ρ.set i (some (.own (xi al))))
 |_=>un
theorem yj{ks ds:List D}{k v:D}{al':List (Key×D)}(h:tL ks ds k v=some al'):∃al q,ks=ie al/\ds=al.map (·.2)/\k=bF q/\small al.length=true/\al'=qa al q v:=by
 unfold tL at h;cases e1:pM ks ds with
 |none=>rw[e1]at h;cases h
 |some al=>
  rw[e1]at h;cases e2:keyOf k with
  |none=>rw[e2]at h;cases h
  |some q=>
   rw[e2]at h;obtain⟨h3,h4⟩:=bP (show(if small al.length then some (qa al q v)else none)=some al' from h);obtain⟨h1,h2⟩:=w8 e1;exact⟨al,q,h1,h2,ra e2,h3,h4.symm⟩
theorem DC{kvs:List (Key×V)}{al:List (Key×D)}(e:kvs.map (·.1)=al.map (·.1)):ie al=kvs.map λp=>bF p.1:=by
 have:=congrArg (List.map bF) e
 rw[Oc,Oc]at this;exact this.symm
def GL(td ty tv:TE):TS:=λD σ H=>tv σ H λv H1=>td σ H1 λx H2=>ty σ H2 λy H3=>∃a k kvs,x=.ref a/\y=kV k/\(H3 a=some (.dK kvs)\/(H3 a=some (.dT [])/\kvs=[]))/\kvs.length<Qm/\D.nx σ (upd H3 a (.dK (putK kvs k v)))
section
variable{X:Cx}{o idx value:Qv}{pos pos':Pos}{td ty tv:TE}
theorem Bi(hu:X.A.units+1<QQ)(ho:PE X o td)(hi:PE X idx ty)(hv:PE X value tv)(hs:swapsWith value (some (.Subscript o idx pos')) pos.line X.env=pure false):PS X (.Assign [.Subscript o idx pos'] value pos) (GL td ty tv):=by
 intro pins s σ H D I h;refine wpAny_Assign_Subscript (eJ (hv pins s σ H _ I h) λr s1 ⟨v,H1,I1,rv,q1⟩=>eJ (ho pins s1 σ H1 _ I1 q1) λu s2 ⟨x,H2,I2,rx,q2⟩=>eJ (hi pins s2 σ H2 _ I2 q2) λiv s3 ⟨y,H3,I3,ry,a,k,kvs,ex,ey,ha,hl,q3⟩=>?_) hs;subst ex ey;obtain rfl:u=Value.ref a:=rx;rcases ha with ha|⟨ha,rfl⟩
 ·exact mD hu I3 (FH.k ha hl) ry rv λs4 I4=>⟨σ,_,I4,q3⟩
 ·refine mD hu (GY I3 ha) (FH.k aZ hl) ry rv λs4 I4=>⟨σ,_,I4,?_⟩
  rw[wY];exact q3
end
theorem Jj{X:Cx}{i:Nat}{x:Str}{idx value:Qv}{fk fv:FX}{npos tpos pos:Pos}(hu:X.A.units+64<QQ)(hx:PE X (.Name x npos) (wG i))(hi:FE X idx fk)(hv:FE X value fv)
  (hs:swapsWith value (some (.Subscript (.Name x npos) idx tpos)) pos.line X.env=pure false:=by rfl):
  FS X (.Assign [.Subscript (.Name x npos) idx tpos] value pos) (mY i fk fv):=λHb Ob pins s σ H E I ⟨O,ρ,k,rr,S,hF,hk⟩=>by
 unfold mY at hF;split at hF
 ·rename_i ks ds hxs;obtain⟨a,ha,haO,hat⟩:=S.env.own i _ hxs;have hP:=iX.on hF hk S (Q:=λal=>k.nx (ρ.set i (some (.own (xi al))))=rr) λp e=>e;refine Bi ‹0› hx hi hv hs pins s σ H E I ⟨O,ρ,S.env,(iX.bind hP).imp λy hP v H1 s1 d1=>?_⟩;have S1:=S.same s1;refine⟨.ref a,ha,O,ρ,S1.env,((iX.bind hP).mono s1).imp λj hP w H2 s2 d2=>?_⟩;have S2:=S1.same s2;obtain⟨al',hg,e⟩:=iX.rO hP;obtain⟨al,q,f1,f2,f3,f4,f5⟩:=yj hg;subst f1 f2 f3 f5;have s12:=s1.trans s2;have hat2:eE X.K H2 O a (xi al):=hat.mono (let ⟨_,z⟩:=hat.some;qq s12 z) (cw s12);have dv:cO X.K (hid H2 O) y v:=d1.mono (cw s2);have fin:∀kvs:List (Key×V),kvs.map (·.1)=al.map (·.1)->bh X.K (hid H2 O) (al.map (·.2)) (kvs.map (·.2))->eE X.K (upd H2 a (.dK (putK kvs q v))) O a (xi (qa al q y)):=λkvs k2 k3=>
   ⟨_,_,aZ,(Cm dv k2 k3).mono (jj haO),.inl ⟨putK kvs q v,rfl,DC (A5 k2 q v y),rfl⟩⟩
  rcases Ln hat2 with⟨kvs,k1,k2,k3⟩|⟨k1,rfl⟩
  ·have hl:kvs.length=al.length:=(by have:=congrArg List.length k2;simpa using this);exact⟨a,q,kvs,rfl,qD d2,.inl k1,by rw[hl];exact NI (of_decide_eq_true f4) (by decide),hk.nx O _ σ _ (S2.setO hxs ha trivial (fin kvs k2 k3)) e⟩
  ·exact⟨a,q,[],rfl,qD d2,.inr ⟨k1,rfl⟩,by decide,hk.nx O _ σ _ (S2.setO hxs ha trivial (fin [] rfl (cU.mpr rfl))) e⟩
 ·exact absurd hF.symm hk.ne
section
variable{X:Cx}
theorem IE{pins:List (Qj×Obj)}{σ:St}{H:Hp}{s:Qs}{O:List Qj}{ks ds:List D}{v:V}{qs:List Key}(I:Inv X pins σ H s)(h:cO X.K (hid H O) (.dct ks ds) v)(hk:keysOf ks=some qs):
  ∃a vs,v=.ref a/\qs.length<=Qm/\(a==sysModules)=false/\s.heap.DictOf (cM X.prog X.w) a vs/\vs.map (·.1)=qs:=by
 obtain⟨a,vs,e,_,h2⟩:=JA.mp h;have ek:=mL hk;rcases h2 with⟨kvs,h3,h4,_⟩|⟨kvs,h3,h4,_⟩|⟨kvs,o,h3,h4,_⟩
 rotate_left 2
 ·rw[h4]at hk;cases hk
 ·obtain⟨z,hd,us,rel,dd⟩:=EJ I.hok ((aI H O) _ _ h3);have e1:kvs.map (·.1)=qs:=by
   have:(kvs.map (·.1)).map bF=qs.map bF:=(by rw[Oc,<-ek,h4];rfl);have e2:=congrArg keysOf this;rw[cy,cy]at e2;exact Option.some.inj e2
  refine⟨a,us,e,?_,hd,dd,?_⟩
  ·have:=congrArg List.length e1
   rw[MS]at this;omega
  ·rw[<-rel.keys,e1]
 ·cases kvs with
  |nil=>
   rw[h4]at hk;cases hk;obtain⟨z,hd,us,rel,dd⟩:=(show cJ X.prog X.w H s.heap a (.dK [])from xc (I.hok a _ ((aI H O) _ _ h3)))
   refine⟨a,us,e,MI _,hd,dd,?_⟩;rw[<-rel.keys];rfl
  |cons p r=>
   rw[h4]at hk;cases hk
def ui:List D->Option D
 |[.dct ks _]=>(keysOf ks).bind λqs=>some (.int qs.length)
 |_=>none
theorem A8:dN X (.builtin "len") (xD X.K ui):=by
 intro pins s σ H xs us Q I r ⟨O,ds,d,hO,hd,hg,q⟩;unfold ui at hg;split at hg
 ·rename_i ks vs0;cases hk:keysOf ks with
  |none=>rw[hk]at hg;cases hg
  |some qs=>
   rw[hk]at hg;cases hg;obtain⟨v,ev,h1⟩:=hd.one;obtain⟨a,vs,e,z,hs,dd,e1⟩:=IE I h1 hk;subst ev e;obtain⟨u,rfl,ru⟩:=vals1 r;cases ru;have hl:vs.length=qs.length:=(by have:=congrArg List.length e1;simpa using this);refine call_len_dict hs dd (by rw[QL]at z;omega) ?_;rw[hl];exact⟨.int qs.length,H,I.tok _,⟨_,rfl⟩,q _ H (bz.refl H) (eZ.mpr rfl)⟩
 ·cases hg
theorem As{k:Key}{v:Qg}(h:pP k v=true):RelV (kV k) v:=by
 rcases cS h with⟨i,t,rfl,rfl⟩|⟨x,t,rfl,rfl⟩
 ·exact⟨_,rfl⟩
 ·exact⟨_,rfl⟩
theorem t9{P:Qi}{w:Qh}:∀{vs:List (Key×Qg)}{its:List Qg},its.length=vs.length->(∀(j:Nat)(v:Qg),its[j]?=some v->∃(k:Key)(x:Qg),vs[j]?=some (k,x)/\(cM P w).is k v=true)->Vals (vs.map λp=>kV p.1) its
 |[],[],_,_=>.nil
 |p::r,u::us,hl,h=>by
  obtain⟨k,x,e,hk⟩:=h 0 u rfl;cases e;exact .cons (As (by rw[ym]at hk;exact hk)) (t9 (by simpa using hl) λj v e=>h (j+1) v (by simpa using e))
 |[],_::_,hl,_=>by cases hl
 |_::_,[],hl,_=>by cases hl
theorem tN{K:OZ}{H:Hp}:∀qs:List Key,bh K H (qs.map bF) (qs.map kV)
 |[]=>cU.mpr rfl
 |k::r=>bE.mpr ⟨kV k,_,rfl,by cases k with
  |inl i=>exact eZ.mpr rfl
  |inr x=>exact e9.mpr rfl,tN r⟩
def kU:List D->Option D
 |[.dct ks _]=>(keysOf ks).bind λ_=>some (.lst ks)
 |_=>none
theorem rE(hc:X.calm=true):dN X (.type "list") (xD X.K kU):=by
 intro pins s σ H xs us Q I r ⟨O,ds,d,hO,hd,hg,q⟩;unfold kU at hg;split at hg
 ·rename_i ks vs0;cases hk:keysOf ks with
  |none=>rw[hk]at hg;cases hg
  |some qs=>
   rw[hk]at hg;cases hg;obtain⟨v,ev,h1⟩:=hd.one;obtain⟨a,vs,e,z,hs,dd,e1⟩:=IE I h1 hk;subst ev e;obtain⟨u,rfl,ru⟩:=vals1 r;cases ru;have hl:vs.length=qs.length:=(by have:=congrArg List.length e1;simpa using this);obtain⟨ep,da⟩:=dd.dictAt;refine Py (PySem.W.kdl_dict hs) (I.ok.hd hc) da ‹0› λh' tk acc' c' kp e2 it=>?_;have rv:Vals (qs.map kV) acc'.toList:=by
    have:=t9 (P:=X.prog) (w:=X.w) (vs:=vs) (its:=acc'.toList) (by rw[Array.length_toList];exact it.1) λj v e=>it.2 j v (by rw[<-Array.getElem?_toList];exact e)
    rw[<-e1,Oc];exact this
   refine⟨.ref s.heap.objs.size,_,I.laid (t':=tk) kp (MC _) (show cJ X.prog X.w _ h' _ (.lst (qs.map kV))from⟨by rw[MS];exact z,acc'.toList,c',rv,by simpa using e2⟩),rfl,?_⟩;have hf:=I.hok.fresh (MC s.heap.objs.size);refine q _ _ (bW hf _) ?_;rw[mL hk];exact dh hO hf (tN qs)
 ·cases hg
end
end TG
namespace TG
open PySem PySem.Spec L2
variable[bc]
end TG
namespace TG
open PySem PySem.Spec PySem.Calls L2
variable[bc]
theorem Aj:typeLookup (.type "list") "keys"=pure none:=by rw[typeLookup_type,builtinLookup_eq_fast];kernel_rfl
theorem Ew{prog:Qi}{w:Qh}{A:Qr}{E:Qg->Qs->Prop}{s:Qs}{a:Qj}{o:Obj}{xs:Array Qg}{k:Nat}{u:Tok}{Q:Qg->Qs->Prop}
  (hx:s.heap.get? a=some o) (hc:o.cls=.type "list") (hdat:o.data=.seq xs k) (hd:o.dict=none) (hA:A.handled=none)
  (h:∀h' tk e,Heap.NewExcOf s.heap h' e "AttributeError"->E (.ref e) {s with heap:=h',toks:=tk}):
  Qu (model prog w) A (getAttrBy (.ref a) (.str "keys" u) false) Q E s:=by
 obtain⟨c,dct,dat,sl⟩:=o;simp only at hc hdat hd;subst hc hdat hd;obtain⟨hp,g,d,tk,os⟩:=s;have hT:∀tk',(⟨hp,g,d,tk',os⟩:Qs).TypeIs (.ref a) "list":=λ_=>⟨_,hx,rfl⟩
 have f1:=sub_AttributeError;have f3:=F.slot_list_getattribute.lookup;have f4:=F.slot_list_getattribute.bind (.ref a);have f5:=am_list_getattr_none;unfold getAttrBy
 repeat (any_goals (first|assumption|exact hT _|((with_reducible show Qu _ _ (call (Value.builtin "list.__getattribute__") _ _) _ _ _);refine call_meets F.slot_list_getattribute (hT _) am_entry_list_getattribute (F.args_list_getattribute_2 _ _) (meets_getattribute_miss_list a xs k sl "keys" _ Aj (by decide +kernel) (by decide +kernel)) ⟨hx,hA,λh' tk' e hx'=>?_⟩)|wp_step))
 obtain⟨t',u',he⟩:=hx'.there;show Qu _ _ (getattributeRaised _ _ _ _ _ _ _) _ _ _;unfold getattributeRaised
 repeat (any_goals (first|assumption|wp_step))
 exact h _ _ _ hx'.of
theorem Di{prog:Qi}{w:Qh}{A:Qr}{E:Qg->Qs->Prop}{s:Qs}{a:Qj}{o:Obj}{xs:Array Qg}{k:Nat}{Q:Option Qg->Qs->Prop}
  (hx:s.heap.get? a=some o) (hc:o.cls=.type "list") (hdat:o.data=.seq xs k) (hd:o.dict=none) (hA:A.handled=none)
  (h:∀h' tk,(∀b o,s.heap.get? b=some o->h'.get? b=some o)->Q none {s with heap:=h',toks:=tk}):
  Qu (model prog w) A (getAttr? (.ref a) "keys") Q E s:=by
 obtain⟨hp,g,d,tk,os⟩:=s;have f1:=sub_AttributeError;unfold getAttr? getAttrBy?;refine QD (wpAny_mkText ?_);refine QD (Rt (Ew (s:=⟨hp,g,d,tk+1,os⟩) hx hc hdat hd hA λh' tk' e ne=>?_));obtain⟨ob,vs,e1,e2,_⟩:=ne.there;refine QD (Ru (s:=⟨h',g,d,tk',os⟩) ⟨ob,e1,e2⟩ f1 ?_);exact QC (h h' tk' ne.keeps)
abbrev Keeps(h0 h:Ql):Prop:=∀b o,h0.get? b=some o->h.get? b=some o
section
variable{prog:Qi}{w:Qh}{A:Qr}{E:Qg->Qs->Prop}{K:Type}[DecidableEq K]{knd:HeapKind prog w K}{d:Qj}{h0:Ql}
def DI(knd:HeapKind prog w K)(h0:Ql)(d:Qj)(h:Ql)(xs:List (K×Qj×Qg)):Prop:=
 (∃o es ep,h.get? d=some o/\o.ExactDict/\o.data=.dict es ep/\es.toList=xs.map (entryOfKey knd)/\(xs.map (·.1)).Nodup)/\∀x∈xs,∀h,Keeps h0 h->knd.is h x.1 x.2.1
theorem DI.dict{h:Ql}{xs:List (K×Qj×Qg)}(x:DI knd h0 d h xs)(k:Keeps h0 h):h.DictOfH knd d xs:=by
 obtain⟨⟨o,es,ep,h1,h2,h3,h4,h5⟩,h6⟩:=x;exact⟨o,es,ep,h1,h2,h3,h4,λy hy=>h6 y hy h k,h5⟩
theorem DI.stay{h h':Ql}{xs:List (K×Qj×Qg)}(x:DI knd h0 d h xs)(k:∀o,h.get? d=some o->h'.get? d=some o):DI knd h0 d h' xs:=by
 obtain⟨⟨o,es,ep,h1,r⟩,h6⟩:=x;exact⟨⟨o,es,ep,k o h1,r⟩,h6⟩
theorem mem_storedH{xs:List (K×Qj×Qg)}{k:K}{a:Qj}{v:Qg}{x:K×Qj×Qg}(h:x∈storedH xs k a v):(∃y∈xs,y.1=x.1/\y.2.1=x.2.1)\/(x.1=k/\x.2.1=a):=by
 unfold storedH at h;split at h
 ·obtain⟨y,hy,rfl⟩:=List.mem_map.mp h;refine .inl ⟨y,hy,?_⟩;unfold putAt;split<;>exact⟨rfl,rfl⟩
 ·rcases List.mem_append.mp h with z|z
  ·exact .inl ⟨x,z,rfl,rfl⟩
  ·rw[Oi]at z;subst z;exact .inr ⟨rfl,rfl⟩
theorem DI.put{h h':Ql}{xs:List (K×Qj×Qg)}{k:K}{a:Qj}{v:Qg}(x:DI knd h0 d h xs)(hk:∀h,Keeps h0 h->knd.is h k a)(dd:h'.DictOfH knd d (storedH xs k a v)):DI knd h0 d h' (storedH xs k a v):=by
 obtain⟨o,es,ep,h1,h2,h3,h4,_,h5⟩:=dd;refine⟨⟨o,es,ep,h1,h2,h3,h4,h5⟩,λy hy g kg=>?_⟩;rcases mem_storedH hy with⟨z,hz,e1,e2⟩|⟨e1,e2⟩
 ·rw[<-e1,<-e2];exact x.2 z hz g kg
 ·rw[e1,e2];exact hk g kg
theorem vN(xs:List (K×Qj×Qg))(k:K)(a:Qj)(v:Qg):(storedH xs k a v).length<=xs.length+1:=by
 unfold storedH;split
 ·rw[MS];omega
 ·simp
theorem xo:entryFor table "dict.update.loop"=some Builtin.«dict.update.loop»:=entryFor_of_tree (by kernel_rfl)
theorem n6:plainId "dict.update.loop"=true:=by decide +kernel
theorem zY{R:Result->Qs->Prop}{I:Qj}{fp wr:List Qj}{P:Nat->Qg->Prop}{St:Nat->Ql->Prop}{L:List (K×Qj×Qg)}(W:Walks prog w A.in1 I fp wr L.length P St)(hwr:∀b∈wr,h0.get? b=none)(hdn:h0.get? d=none)(hdf:d∉fp)
  (hn:L.length<=Qm) (hu:knd.room A.in1) (hP:∀i v,P i v->∃x t,L[i]?=some x/\v=.ref t/\∀h,Keeps h0 h->h.IsTuple t #[.ref x.2.1,x.2.2]) (hK:∀x∈L,∀h,Keeps h0 h->knd.is h x.1 x.2.1) (res:Qg):
  ∀(m i:Nat)(s:Qs)(xs:List (K×Qj×Qg))(j:Int)(u:Tok),i+m=L.length->St i s.heap->Keeps h0 s.heap->DI knd h0 d s.heap xs->xs.length<=i->
  (∀h' tk,Keeps h0 h'->DI knd h0 d h' ((L.drop i).foldl (λxs x=>storedH xs x.1 x.2.1 x.2.2) xs)->R (.ok (.ret res)) {s with heap:=h',toks:=tk})->
  QM (model prog w) A (.builtin "dict.update.loop" ⟨[.ref d,.ref I,.int j u,res],[]⟩) R s:=by
 have hdw:d∉wr:=λh=>hdf (W.sub _ h);intro m
 induction m with
 |zero=>
  intro i s xs j u hi st kp di hl hR;have hin:i=L.length:=by omega
  subst hin;refine codeAny_builtin xo ?_;rw[Around.under_plainId n6 _];show Qu _ A.in1 (pyNext (.ref I) >>= _) _ _ s;refine QD (W.done s _ _ st λh' tk hk=>?_);refine QD (QC (QC ?_))
  have:=hR h' tk (λb o q=>hk b o (λz=>by have:=hwr b z;rw[q]at this;cases this) (kp b o q)) (by
   rw[NM,List.foldl_nil];exact di.stay λo q=>hk d o hdw q)
  exact this
 |succ m ih=>
  intro i s xs j u hi st kp di hl hR;refine codeAny_builtin xo ?_;rw[Around.under_plainId n6 _];show Qu _ A.in1 (pyNext (.ref I) >>= _) _ _ s;refine QD (W.item i s _ _ ‹0› st λv h' tk hv st' hk=>?_);obtain⟨x,t,hx,rfl,ht⟩:=hP i v hv;have kp':Keeps h0 h':=λb o q=>hk b o (λz=>by have:=hwr b z;rw[q]at this;cases this) (kp b o q);obtain⟨o,ho,hc,n,hd⟩:=ht h' kp';have xm:x∈L:=MQ hx;refine QD (Q1 (QD (wpAny_tryCatch ?_)));unfold Builtin.Dict.pairItems;refine QD (Q4 (T:="tuple") ⟨o,ho,hc⟩ ?_);rw[if_pos (by decide)];refine QD (Ri ho hd (QC ?_));show Qu _ _ (holding [.ref x.2.1,x.2.2] (dictSet d (.ref x.2.1) x.2.2)) _ _ _;have di':DI knd h0 d h' xs:=di.stay λo q=>hk d o hdw q;refine Q1 (wpAny_dictSet_heap (s:={s with heap:=h',toks:=tk}) (hsz:=by omega) hu (hK x xm h' kp') (di'.dict kp') λh2 dd sb=>?_);have kp2:Keeps h0 h2:=λb o q=>(sb.2 b (λz=>by rw[z,hdn]at q;cases q)).trans (kp' b o q);refine QC ⟨plainId_quiet n6 _,?_⟩;refine ih (i+1) _ (storedH xs x.1 x.2.1 x.2.2) (j+1) 0 ‹0› (W.frame _ _ _ st' λb hb o q=>(sb.2 b (λz=>hdf (by rw[<-z];exact hb))).trans q) kp2 (di'.put (hK x xm) dd) (by have:=vN xs x.1 x.2.1 x.2.2;omega) λh3 tk3 kp3 di3=>?_;refine hR h3 tk3 kp3 ?_;have e:L.drop i=x::L.drop (i+1):=by
   have hil:i<L.length:=(by omega);rw[NF hil];rw[Nq hil]at hx;rw[Option.some.inj hx]
  rw[e,N1];exact di3
theorem rK{s:Qs}{Q:Qg->Qs->Prop}{l:Qj}{o:Obj}{items:Array Qg}{n:Nat}{L:List (K×Qj×Qg)}(ho:s.heap.get? l=some o)(hc:o.cls=.type "list")(hd:o.data=.seq items n)(hdd:o.dict=none)(hh:A.handled=none)(hu:knd.room A.in1.in1)
  (hl:items.size=L.length) (hn:L.length<=Qm) (hP:∀(i:Nat) v,items[i]?=some v->∃x t,L[i]?=some x/\v=.ref t/\s.heap.IsTuple t #[.ref x.2.1,x.2.2]) (hK:∀x∈L,∀h,Keeps s.heap h->knd.is h x.1 x.2.1)
  (hQ:∀h' tk,Keeps s.heap h'->DI knd s.heap s.heap.objs.size h' (L.foldl (λxs x=>storedH xs x.1 x.2.1 x.2.2) [])->Q (.ref s.heap.objs.size) {s with heap:=h',toks:=tk}):
  Qu (model prog w) A (call (.type "dict") [.ref l]) Q E s:=by
 refine callType_codes (Q₁:=λobj s₁=>obj=.ref s.heap.objs.size/\s₁={s with heap:=s.heap.push {cls:=.type "dict",data:=.dict #[]}}) F.kt_called_dict (F.kt_typeCall_dict_1 _) F.entry_dict_init (kt_code_dict_new _ ⟨rfl,rfl⟩) ?_;rintro obj s₁ ⟨rfl,rfl⟩;have hnew:(s.heap.push {cls:=.type "dict",data:=.dict #[]}).DictOfH knd s.heap.objs.size []:=Heap.DictOfH.new s.heap;have hlt:=PD ho;have hl1:(s.heap.push {cls:=.type "dict",data:=.dict #[]}).get? l=some o:=PJ _ ho;refine⟨hnew.typeIs,F.args_dict_init_2 _ _,?_⟩;unfold Builtin.«dict.__init__»;refine QD ?_;unfold Builtin.Dict.selfAndRest;refine QD (wpAny_notOrdered_dict hnew.typeIs ?_);show Qu _ _ (pure (s.heap.objs.size,[Value.ref l])) _ _ _;refine QC ?_;show Qu _ _ (Builtin.Dict.updateFrom "dict.__init__" s.heap.objs.size (.ref l) [] .none) _ _ _;unfold Builtin.Dict.updateFrom;refine QD (Q4 (T:="list") ⟨o,hl1,hc⟩ ?_);rw[if_pos (by decide)];refine QD (Di hl1 hc hd hdd hh λh1 tk1 k1=>?_);rw[if_pos (show(none:Option Qg).isNone=true from rfl)];refine QD (Rf ?_);have hd1:h1.get? s.heap.objs.size=some {cls:=.type "dict",data:=.dict #[]}:=k1 _ _ (PK _ rfl);have hl2:h1.IsList l items:=⟨o,k1 _ _ hl1,hc,n,hd⟩
 have dlt:=PD hd1;refine QD (QE (s:={s with heap:=h1,toks:=tk1}) hl2 ?_);refine QC ⟨plainId_quiet n6 _,?_⟩;have W:=Walks.list (prog:=prog) (w:=w) (A:=A.in1.in1) hh h1.objs.size l (Mq (M9 hlt dlt)) items;rw[hl]at W;refine zY (A:=A.in1) (knd:=knd) (h0:=s.heap) (d:=s.heap.objs.size) W (λb hb=>?_) (PF (MC _)) (λz=>?_) hn hu (λi v hv=>?_) hK .none L.length 0 _ [] 0 0 ‹0› ?_ (λb o q=>?_) ⟨⟨_,#[],0,PJ _ hd1,⟨rfl,rfl,rfl⟩,rfl,rfl,Nb⟩,λx hx=>by simp at hx⟩ (MC _) λh' tk kp di=>?_
 ·rw[Oi]at hb;subst hb;exact PF (Ms dlt)
 ·simp only[NP,NQ,or_false]at z;rcases z with z|z
  ·exact absurd z (Mq dlt)
  ·exact absurd z.symm (Mq hlt)
 ·obtain⟨x,t,e1,e2,e3⟩:=hP i v hv;obtain⟨ob,q1,q2⟩:=e3;exact⟨x,t,e1,e2,λh kh=>⟨ob,kh _ _ q1,q2⟩⟩
 ·exact⟨⟨_,PK _ rfl,rfl,rfl⟩,let ⟨ob,q1,q2⟩:=hl2;⟨ob,PJ _ q1,q2⟩⟩
 ·exact PJ _ (k1 _ _ (PJ _ q))
 ·exact⟨rfl,hQ h' tk kp di⟩
end
def vF:D->Option (List Key×D)
 |.tup [k,v]=>(jp k).map λq=>(q,v)
 |_=>none
def kF:List D->Option (List (List Key×D))
 |[]=>some []
 |d::r=>(vF d).bind λp=>(kF r).map (p::·)
def BM(ps:List (List Key×D)):List (List Key×D):=ps.foldl (λal p=>il al p.1 p.2) []
def uU:List D->Option D
 |[.lst xs]=>(kF xs).bind λps=>if small ps.length then some (eL (BM ps))else none
 |_=>none
theorem Bx{d:D}{p:List Key×D}(h:vF d=some p):d=.tup [.tup (p.1.map bF),p.2]:=by
 unfold vF at h;split at h
 ·rename_i k v;cases e:jp k with
  |none=>rw[e]at h;cases h
  |some q=>rw[e]at h;cases h;rw[n5 e]
 ·cases h
theorem sU:∀{xs:List D}{ps:List (List Key×D)},kF xs=some ps->xs=ps.map λp=>.tup [.tup (p.1.map bF),p.2]
 |[],_,h=>by cases h;rfl
 |d::r,ps,h=>by
  unfold kF at h;cases e1:vF d with
  |none=>rw[e1]at h;cases h
  |some p=>
   rw[e1]at h;cases e2:kF r with
   |none=>rw[e2]at h;cases h
   |some ps'=>rw[e2]at h;cases h;rw[Bx e1,sU e2];rfl
section
variable{X:Cx}
theorem tT{pins:List (Qj×Obj)}{σ:St}{H:Hp}{s:Qs}{O:List Qj}(I:L2.Inv X pins σ H s):∀{ps:List (List Key×D)}{ws:List V}{its:List Qg},bh X.K (hid H O) (ps.map λp=>.tup [.tup (p.1.map bF),p.2]) ws->Vals ws its->
  ∃(L:List (List Key×Qj×Qg))(ks:List (List Key×V)),its.length=L.length/\(∀(i:Nat)(v:Qg),its[i]?=some v->∃(x:List Key×Qj×Qg)(t:Qj),L[i]?=some x/\v=.ref t/\s.heap.IsTuple t #[.ref x.2.1,x.2.2])/\KT H ks L/\ks.map (·.1)=ps.map (·.1)/\bh X.K (hid H O) (ps.map (·.2)) (ks.map (·.2))
 |[],ws,its,h,r=>by
  rw[MZ,cU]at h;subst h;cases r;exact⟨[],[],rfl,(λi v e=>by simp at e),.nil,rfl,cU.mpr rfl⟩
 |p::ps,ws,its,h,r=>by
  rw[M0,bE]at h;obtain⟨w,ws',rfl,h1,h2⟩:=h;cases r with
  |@cons _ u _ us ru rr=>
   obtain⟨L,ks,l1,l2,l3,l4,l5⟩:=tT I h2 rr;obtain⟨t,vs,rfl,t1,t2⟩:=cD.mp h1;obtain⟨v1,v2,rfl,d1,d2⟩:=t2.two;obtain⟨a,ks1,rfl,a1,a2⟩:=cD.mp d1;rw[iM a2]at a1;obtain⟨its',r',⟨o,q1,q2⟩,_⟩:=I.tuple (bZ (K:=X.K) (aI H O) t1);obtain⟨x1,x2,rfl,rx1,rx2⟩:=vals2 r';cases rx1;obtain rfl:u=Value.ref t:=ru;refine⟨(p.1,a,x2)::L,(p.1,v2)::ks,by rw[M6,M6,l1],λi v e=>?_,.cons ⟨rfl,(aI H O) _ _ a1,rx2⟩ l3,by rw[M0,M0,l4],bE.mpr ⟨v2,_,rfl,d2,l5⟩⟩;cases i with
   |zero=>
    have e:Value.ref t=v:=(by simpa using e);subst e;exact⟨_,t,rfl,rfl,o,q1,q2⟩
   |succ i=>exact l2 i v (by simpa using e)
theorem vW{K:OZ}{H:Hp}{H0:Hp}:∀{ps:List (List Key×D)}{ks:List (List Key×V)}{L:List (List Key×Qj×Qg)}{al:List (List Key×D)}{kvs:List (List Key×V)}{xs:List (List Key×Qj×Qg)},KT H ks L->ks.map (·.1)=ps.map (·.1)->bh K H0 (ps.map (·.2)) (ks.map (·.2))->
  KT H kvs xs->kvs.map (·.1)=al.map (·.1)->bh K H0 (al.map (·.2)) (kvs.map (·.2))->
  KT H (ks.foldl (λm p=>putK m p.1 p.2) kvs) (L.foldl (λxs x=>storedH xs x.1 x.2.1 x.2.2) xs)/\(ks.foldl (λm p=>putK m p.1 p.2) kvs).map (·.1)=(ps.foldl (λal p=>il al p.1 p.2) al).map (·.1)/\
   bh K H0 ((ps.foldl (λal p=>il al p.1 p.2) al).map (·.2)) ((ks.foldl (λm p=>putK m p.1 p.2) kvs).map (·.2))/\(ks.foldl (λm p=>putK m p.1 p.2) kvs).length<=kvs.length+ks.length
 |[],[],_,al,kvs,xs,.nil,_,_,h1,h2,h3=>⟨h1,h2,h3,by simp⟩
 |p::ps,q::ks,_,al,kvs,xs,.cons (b:=x) hq hr,e,d,h1,h2,h3=>by
  rw[M0,M0]at e;injection e with e1 e2;rw[M0,M0,bE]at d;obtain⟨v,vs,d0,d1,d2⟩:=d;injection d0 with d0 d0';subst d0 d0';obtain⟨y1,y2,y3⟩:=hq;have z1:=KT.put h1 q.1 y2 y3;rw[y1]at z1;have z2:=wj h2 q.1 q.2 p.2;have z3:=zI (k:=q.1) d1 h2 h3
  have:=vW (kvs:=putK kvs q.1 q.2) (al:=il al q.1 p.2) (xs:=storedH xs x.1 x.2.1 x.2.2) hr e2 d2 (by rw[y1];exact z1) z2 z3
  rw[N1,N1,N1,<-e1];refine⟨this.1,this.2.1,this.2.2.1,Mr this.2.2.2 ?_⟩
  have:=kY kvs q.1 q.2
  rw[M6];omega
 |[],_::_,_,_,_,_,_,e,_,_,_,_=>by cases e
 |_::_,[],_,_,_,_,_,e,_,_,_,_=>by cases e
theorem yC(hc:X.calm=true)(hu:X.A.units+64<QQ):dN X (.type "dict") (xD X.K uU):=by
 intro pins s σ H xs us Q I r ⟨O,ds,d,hO,hd,hg,q⟩;unfold uU at hg;split at hg
 ·rename_i ys;cases hp:kF ys with
  |none=>rw[hp]at hg;cases hg
  |some ps=>
   rw[hp]at hg;obtain⟨sm,rfl⟩:=bP (show(if small ps.length then some (eL (BM ps))else none)=some d from hg);obtain⟨v,rfl,h1⟩:=hd.one;obtain⟨p,ws,rfl,g1,g2⟩:=cE.mp h1;obtain⟨u,rfl,ru⟩:=vals1 r;cases ru;obtain⟨its,rv,⟨o,n,ho,hcl,hd',hdd⟩,hz⟩:=I.list ((aI H O).seq g1);rw[sU hp]at g2;obtain⟨L,ks,l1,l2,l3,l4,l5⟩:=tT I g2 rv;have kl:ks.length=ps.length:=(by have:=congrArg List.length l4;simpa using this);have ll:ks.length=L.length:=Paired.length l3;have key:∀{ks:List (List Key×V)}{L:List (List Key×Qj×Qg)},KT H ks L->∀x∈L,∀h,Keeps s.heap h->(tupleKind (cM X.prog X.w)).is h x.1 x.2.1:=λ{ks L} kt=>by
    induction kt with
    |nil=>intro x hx;cases hx
    |cons hq _ ih=>
     intro x hx h kh;rcases List.mem_cons.mp hx with z|z
     ·subst z;obtain⟨e1,e2,_⟩:=hq;rw[e1]at e2;obtain⟨o,xs,n,k1,k2⟩:=pE I.hok e2;exact⟨o,xs,n,kh _ _ k1,k2⟩
     ·exact ih x z h kh
   obtain⟨f1,f2,f3,f4⟩:=vW (K:=X.K) (H:=H) (H0:=hid H O) (al:=[]) (kvs:=[]) (xs:=[]) l3 l4 l5 .nil rfl (cU.mpr rfl);have hsz:ps.length<=100000:=of_decide_eq_true sm;have sl:Qm=16777216:=QL;refine rK (knd:=tupleKind (cM X.prog X.w)) (L:=L) ho hcl hdd hd' (I.ok.hd hc) (Ra (by rw[in1_units];omega)) (by simpa using l1) ‹0› (λi v e=>l2 i v (by simpa using e)) (key l3) λh' tk kp di=>?_;have hf:=I.hok.fresh (MC s.heap.objs.size);obtain⟨⟨od,es,ep,k1,k2,k3,k4,k5⟩,_⟩:=di;have kt':KT (upd H s.heap.objs.size (.dT (ks.foldl (λm p=>putK m p.1 p.2) []))) (ks.foldl (λm p=>putK m p.1 p.2) []) (L.foldl (λxs x=>storedH xs x.1 x.2.1 x.2.2) []):=KT.keeps f1 λb ys eb=>by rw[aM (λz=>by rw[z,hf]at eb;cases eb)];exact eb
   refine⟨.ref s.heap.objs.size,_,I.laid (t':=tk) kp (MC _) (show cJ X.prog X.w _ h' _ (.dT (ks.foldl (λm p=>putK m p.1 p.2) []))from⟨by simp only[M7]at f4;omega,beq_eq_false_iff_ne.mpr (Ne.symm (Mq I.big)),_,kt',od,es,ep,k1,k2,k3,k4,k5⟩),rfl,?_⟩;refine q _ _ (bW hf _) ?_;have pO:=hO.not hf;refine JA.mpr ⟨s.heap.objs.size,_,rfl,f3.mono (uY hf),.inr (.inl ⟨_,by rw[js pO];exact aZ,Cq f2,rfl⟩)⟩
 ·cases hg
end
def oT(al:List (List Key×D))(q:List Key):Option D:=(al.find? λp=>decide (p.1=q)).map (·.2)
def Il(ks ds:List D)(k x:D):Option D:=(pq ks ds).bind λal=>(jp k).bind λq=>some ((oT al q).getD x)
def Kc(fo fk fx:FX):FX:=λρ=>(fo ρ).bind λdd=>match dd with
 |.dct ks ds=>(fk ρ).bind λk=>(fx ρ).bind λx=>rO (Il ks ds k x)
 |_=>un
theorem rj{K:OZ}{H:Hp}{v:V}{al:List (List Key×D)}(h:cO K H (eL al) v):
  ∃a,v=.ref a/\((∃kvs:List (List Key×V),H a=some (.dT kvs)/\kvs.map (·.1)=al.map (·.1)/\bh K H (al.map (·.2)) (kvs.map (·.2)))\/(H a=some (.dK [])/\al=[])):=by
 obtain⟨a,vs,e0,h2,h3⟩:=JA.mp h;refine⟨a,e0,?_⟩;rcases h3 with⟨kvs,e,e1,e2⟩|⟨kvs,e,e1,e2⟩|⟨kvs,o,e,e1,e2⟩
 rotate_left 2
 ·cases al with
  |nil=>cases e1
  |cons _ _=>injection e1 with e1 _;cases e1
 ·cases kvs with
  |nil=>exact .inr ⟨e,by simpa using e1⟩
  |cons p r=>
   cases al with
   |nil=>cases e1
   |cons q r'=>
    have e1:D.tup (q.1.map bF)::encK r'=bF p.1::r.map (λp=>bF p.1):=e1;injection e1 with e1 _;rcases p with⟨k,v⟩
    cases k<;>cases e1
 ·refine .inl ⟨kvs,e,?_,by rw[<-e2];exact h2⟩;exact(nS (ks:=kvs.map (·.1)) (by rw[Oc];exact e1)).symm
theorem wx{K:OZ}{H:Hp}(q:List Key):∀{kvs:List (List Key×V)}{al:List (List Key×D)},kvs.map (·.1)=al.map (·.1)->bh K H (al.map (·.2)) (kvs.map (·.2))->(kR kvs q=none/\oT al q=none)\/∃v d,kR kvs q=some v/\oT al q=some d/\cO K H d v
 |[],[],_,_=>.inl ⟨rfl,rfl⟩
 |p::r,a::al,e,h=>by
  rw[M0,M0]at e;injection e with e1 e2;rw[M0,M0,bE]at h;obtain⟨v,ws,h0,h1,h2⟩:=h;injection h0 with h0 h0';subst h0 h0';by_cases z:p.1=q
  ·refine .inr ⟨p.2,a.2,lG z,?_,h1⟩;unfold oT;rw[Oo (by rw[<-e1];simpa using z)];rfl
  ·have ih:=wx q e2 h2;have g:oT (a::al) q=oT al q:=by
    unfold oT;rw[Oq (by rw[<-e1];simpa using z)]
   rw[lu z,g];exact ih
 |[],_::_,e,_=>by cases e
 |_::_,[],e,_=>by cases e
def xU(x y:D):Option D:=match y with
 |.dct ks ds=>ng ks ds x
 |_=>none
def iE(x y:D):Option D:=match y with
 |.dct ks ds=>(ng ks ds x).bind wL
 |_=>none
section
variable{X:Cx}
theorem G0(hu:X.A.units+64<QQ):kQ X (QJ .In) (rD X.K xU):=by
 intro pins s σ H x y u v Q I rx ry ⟨O,a,b,d,hO,ha,hb,hg,q⟩;cases b with
 |dct ks ds=>
  obtain⟨al,qk,f1,f2,f3,f4⟩:=qQ (show ng ks ds a=some d from hg);subst f1 f2 f3 f4;obtain⟨p,ey,hh⟩:=rj hb;obtain⟨c,ws,ex,g1,g2⟩:=cD.mp ha;rw[iM g2]at g1;have g1':=(aI H O) _ _ g1;subst ex ey;cases ry;rcases hh with⟨kvs,k1,k2,k3⟩|⟨k1,rfl⟩
  ·have hv:=vR k2 qk;rw[Od]at hv;refine HV ‹0› I (A7.t ((aI H O) _ _ k1) g1') rx λs3 I3=>⟨.bl (kR kvs qk).isSome,H,I3,rfl,q _ H (bz.refl H) (kT.mpr ?_)⟩
   rw[hv];rfl
  ·have k1':=(aI H O) _ _ k1;have ne:c≠p:=λz=>by rw[z,k1']at g1';cases g1'
   refine HV (o:=kR [] qk) ‹0› (Ec I k1') (A7.t aZ (by rw[aM ne];exact g1')) rx λs3 I4=>⟨.bl false,H,?_,rfl,q _ H (bz.refl H) (kT.mpr rfl)⟩
   have I5:=GY I4 aZ;rw[v5 k1']at I5;exact I5
 |_=>cases hg
theorem oP(hu:X.A.units+64<QQ):kQ X (QJ .NotIn) (rD X.K iE):=by
 intro pins s σ H x y u v Q I rx ry ⟨O,a,b,d,hO,ha,hb,hg,q⟩;cases b with
 |dct ks ds=>
  have hg:(ng ks ds a).bind wL=some d:=hg;cases e0:ng ks ds a with
  |none=>rw[e0]at hg;cases hg
  |some d0=>
  rw[e0]at hg;obtain⟨al,qk,f1,f2,f3,f4⟩:=qQ e0;subst f1 f2 f3 f4;cases hg;obtain⟨p,ey,hh⟩:=rj hb;obtain⟨c,ws,ex,g1,g2⟩:=cD.mp ha;rw[iM g2]at g1;have g1':=(aI H O) _ _ g1;subst ex ey;cases ry;rcases hh with⟨kvs,k1,k2,k3⟩|⟨k1,rfl⟩
  ·have hv:=vR k2 qk;rw[Od]at hv;refine zC ‹0› I (A7.t ((aI H O) _ _ k1) g1') rx λs3 I3=>⟨.bl (!(kR kvs qk).isSome),H,I3,rfl,q _ H (bz.refl H) (kT.mpr ?_)⟩
   rw[hv];rfl
  ·have k1':=(aI H O) _ _ k1;have ne:c≠p:=λz=>by rw[z,k1']at g1';cases g1'
   refine zC (o:=kR [] qk) ‹0› (Ec I k1') (A7.t aZ (by rw[aM ne];exact g1')) rx λs3 I4=>⟨.bl true,H,?_,rfl,q _ H (bz.refl H) (kT.mpr rfl)⟩
   have I5:=GY I4 aZ;rw[v5 k1']at I5;exact I5
 |_=>cases hg
end
end TG
namespace TG
open PySem PySem.Spec L2
variable[bc]
end TG
namespace TG
open PySem PySem.Spec L2
variable[bc]
end TG
namespace TG
open PySem PySem.Spec L2
variable[bc]
end TG
namespace TG
open PySem PySem.Spec PySem.Calls L2
variable[bc]
end TG
namespace TG
open PySem PySem.Spec L2
variable[bc]
theorem dL.setN{K:OZ}{Hb:Hp}{Ob O O':List Qj}{H H':Hp}{ρ:aw}{σ:St}(S:dL K Hb Ob O H ρ σ){i:Nat}{d d':D}(hi:ρ[i]?=some (some (.nest d)))(sub:∀b∈O,b∈O')(s:bz (hid H O) (hid H' O'))(hb:Base Hb Ob H' O')(all:dQ H' O')
  (keep:∀(j:Nat) xs b,ρ[j]?=some (some (.own xs))->σ[j]?=some (some (.ref b))->H b=H' b) (new:yM K Hb Ob O' H' (ρ.set i (some (.nest d'))) σ i d'):dL K Hb Ob O' H' (ρ.set i (some (.nest d'))) σ:=by
 have own:∀(j:Nat) xs,(ρ.set i (some (.nest d')))[j]?=some (some (.own xs))->ρ[j]?=some (some (.own xs)):=λj xs e=>by
  rcases bp e with⟨_,q⟩|⟨_,q⟩
  ·cases q
  ·exact q
 refine⟨⟨λj d1 e=>?_,λj xs e=>?_,λj l xs ys a e1 e2 e3 e4=>S.env.one j l xs ys a (own j xs e1) (own l ys e2) e3 e4,all⟩,hb,λj xs a e1 e2=>S.mine j xs a (own j xs e1) e2,λj dn e=>?_⟩
 ·rcases bp e with⟨_,q⟩|⟨_,q⟩
  ·cases q
  ·obtain⟨v,q1,q2⟩:=S.env.val j d1 q;exact⟨v,q1,q2.mono s⟩
 ·obtain⟨a,q1,q2,q3⟩:=S.env.own j xs (own j xs e);exact⟨a,q1,sub a q2,q3.mono (keep j xs a (own j xs e) q1) s⟩
 ·rcases bp e with⟨hj,q⟩|⟨ne,q⟩
  ·cases q;rw[hj];exact new
  ·obtain⟨_,_,_,_,_,_,one⟩:=S.nst i d hi;exact absurd (one j dn q) ne
def Hk:aw->Bool
 |[]=>true
 |some (.nest _)::_=>false
 |_::ρ=>Hk ρ
theorem n0:∀{ρ:aw},Hk ρ=true->∀(j:Nat) d,ρ[j]?≠some (some (.nest d))
 |[],_,j,d,e=>by simp at e
 |none::ρ,h,j,d,e=>by
  cases j with
  |zero=>simp at e
  |succ j=>exact n0 (ρ:=ρ) h j d (by simpa using e)
 |some (.val _)::ρ,h,j,d,e=>by
  cases j with
  |zero=>simp at e
  |succ j=>exact n0 (ρ:=ρ) h j d (by simpa using e)
 |some (.own _)::ρ,h,j,d,e=>by
  cases j with
  |zero=>simp at e
  |succ j=>exact n0 (ρ:=ρ) h j d (by simpa using e)
 |some (.nest _)::ρ,h,j,d,e=>by cases h
theorem qI.den{K:OZ}{H:Hp}{O O':List Qj}(s:bz (hid H O) (hid H O')):∀{bs:List Qj}{xs:List D},qI K H O bs xs->(∀b∈bs,b∉O')->bh K (hid H O') xs (bs.map .ref)
 |[],[],_,_=>cU.mpr rfl
 |b::bs,x::xs,h,n=>bE.mpr ⟨_,_,rfl,h.1.den s (n b Mv),qI.den s h.2 λb' hb=>n b' (Mw _ hb)⟩
 |[],_::_,h,_=>h.elim
 |_::_,[],h,_=>h.elim
theorem qI.nil{K:OZ}{H:Hp}{O:List Qj}{xs:List D}(h:qI K H O [] xs):xs=[]:=by
 cases xs with
 |nil=>rfl
 |cons _ _=>exact h.elim
theorem ud.den{K:OZ}{H:Hp}{O O':List Qj}{a:Qj}{bs:List Qj}{d:D}(h:ud K H O a bs d)(s:bz (hid H O) (hid H O'))(n:∀b∈a::bs,b∉O'):cO K (hid H O') d (.ref a):=by
 obtain⟨xs,h1,h2⟩:=h;have g:=h1.den s λb hb=>n b (Mw _ hb);have na:=n a Mv;rcases h2 with⟨rfl,q⟩|⟨kvs,rfl,q,e⟩|⟨rfl,rfl,q⟩
 ·exact cE.mpr ⟨a,_,rfl,nG.of (by rw[js na];exact q),g⟩
 ·exact JA.mpr ⟨a,_,rfl,g,.inr (.inl ⟨kvs,by rw[js na];exact q,rfl,e.symm⟩)⟩
 ·have:=h1.nil
  subst this;exact JA.mpr ⟨a,_,rfl,g,.inl ⟨[],by rw[js na];exact q,rfl,rfl⟩⟩
def frzN(i:Nat)(ρ:aw):aw:=match ρ[i]? with
 |some (some (.nest d))=>setV i d ρ
 |_=>ρ
theorem dL.frzN{K:OZ}{Hb:Hp}{Ob O:List Qj}{H:Hp}{ρ:aw}{σ:St}(E:dL K Hb Ob O H ρ σ)(i:Nat):∃O',dL K Hb Ob O' H (frzN i ρ) σ:=by
 unfold TG.frzN;split
 ·rename_i d hd;obtain⟨a,bs,h1,h2,h3,h4,h5⟩:=E.nst i d hd;have sub:∀b∈O.filter (λb=>decide (b∉a::bs)),b∈O:=λb hb=>(List.mem_filter.mp hb).1;have s:bz (hid H O) (hid H (O.filter λb=>decide (b∉a::bs))):=iP sub;have na:∀b∈a::bs,b∉O.filter λb=>decide (b∉a::bs):=λb hb z=>(of_decide_eq_true (List.mem_filter.mp z).2) hb;have bk:∀(l:Nat) x,(TG.setV i d ρ)[l]?=some (some x)->(∀d,x≠.val d)->ρ[l]?=some (some x):=λl x e nv=>by
   rcases bp e with⟨_,q⟩|⟨_,q⟩
   ·cases q;exact absurd rfl (nv _)
   ·exact q
  refine⟨O.filter λb=>decide (b∉a::bs),⟨λj d' e=>?_,λj xs e=>?_,λj l xs ys b e1 e2 e3 e4=>E.env.one j l xs ys b (bk j _ e1 (λ_ z=>nomatch z)) (bk l _ e2 (λ_ z=>nomatch z)) e3 e4,⟨E.env.all.1,λb hb=>E.env.all.2 b (sub b hb)⟩⟩,⟨E.base.same,λb hb=>?_,λb hb=>E.base.new b (sub b hb)⟩,λj xs b e1 e2=>E.mine j xs b (bk j _ e1 (λ_ z=>nomatch z)) e2,λj dn e=>?_⟩
  ·rcases bp e with⟨hj,q⟩|⟨ne,q⟩
   ·cases q;rw[hj];exact⟨.ref a,h1,h2.den s na⟩
   ·obtain⟨w,q1,q2⟩:=E.env.val j d' q;exact⟨w,q1,q2.mono s⟩
  ·obtain⟨b,q1,q2,q3⟩:=E.env.own j xs (bk j _ e (λ_ z=>nomatch z));refine⟨b,q1,List.mem_filter.mpr ⟨q2,decide_eq_true λz=>?_⟩,q3.mono rfl s⟩;exact(h4 b z).2.2.2 j xs (bk j _ e (λ_ z=>nomatch z)) q1
  ·exact List.mem_filter.mpr ⟨E.base.sub b hb,decide_eq_true λz=>(h4 b z).2.2.1 hb⟩
  ·have q:=bk j _ e (λ_ z=>nomatch z);have hj:=h5 j dn q;subst hj;rcases bp e with⟨_,q⟩|⟨ne,_⟩
   ·cases q
   ·exact absurd rfl ne
 ·exact⟨O,E⟩
def we(i:Nat)(F:cx):cx:=λk ρ=>F k (frzN i ρ)
theorem Ja{X:Cx}{st:List Qx}{F:cx}(i:Nat)(h:xB X st F):xB X st (we i F):=λHb Ob=>AD.weak (h Hb Ob) λE σ H ⟨O,ρ,k,r,S,hF,hk⟩=>by
 obtain⟨O',S'⟩:=S.frzN i;exact⟨O',TG.frzN i ρ,k,r,S',hF,hk⟩
end TG
namespace TG
open PySem PySem.Spec L2
variable[bc]
theorem qI.imp{K:OZ}{H H':Hp}{O O':List Qj}:∀{bs:List Qj}{xs:List D},qI K H O bs xs->(∀c∈bs,∀x,eE K H O c x->eE K H' O' c x)->qI K H' O' bs xs
 |[],[],_,_=>trivial
 |b::bs,x::xs,h,f=>⟨f b Mv x h.1,qI.imp h.2 λc hc=>f c (Mw _ hc)⟩
 |[],_::_,h,_=>h.elim
 |_::_,[],h,_=>h.elim
end TG
namespace TG
open PySem PySem.Spec L2
variable[bc]
abbrev Kj(al:List (List Key×D)):D:=.dct (.non::encK al) (al.map (·.2))
theorem xV{α β:Type}{R:α->β->Prop}:∀{xs:List α}{ys:List β},Qk R xs ys->∀{i:Nat}{x:α},xs[i]?=some x->∃y,ys[i]?=some y/\R x y:=λh=>by
 induction h with
 |nil=>intro i x e;simp at e
 |cons hq _ ih=>
  intro i x e;cases i with
  |zero=>rw[NR]at e;cases e;exact⟨_,rfl,hq⟩
  |succ i=>rw[NS]at e ⊢;exact ih e
theorem zy{K:OZ}{H:Hp}:∀q:List Key,bh K H (q.map bF) (q.map kV)
 |[]=>cU.mpr rfl
 |k::q=>bE.mpr ⟨kV k,_,rfl,by cases k with|inl i=>exact eZ.mpr rfl|inr x=>exact e9.mpr rfl,zy q⟩
abbrev v6(p:List Key×D):D:=.tup [.tup (p.1.map bF),p.2]
theorem Bz{K:OZ}{H:Hp}{v:V}{al:List (List Key×D)}(h:cO K H (Kj al) v):∃a o kvs,v=.ref a/\H a=some (.frz o (.dT kvs))/\kvs.map (·.1)=al.map (·.1)/\bh K H (al.map (·.2)) (kvs.map (·.2)):=by
 obtain⟨a,vs,e0,h2,h3⟩:=JA.mp h;rcases h3 with⟨kvs,e,e1,e2⟩|⟨kvs,e,e1,e2⟩|⟨kvs,o,e,e1,e2⟩
 ·cases kvs with
  |nil=>cases e1
  |cons p r=>
   injection e1 with e1 _;rcases p with⟨k,v⟩
   cases k<;>cases e1
 ·cases kvs with
  |nil=>cases e1
  |cons p r=>injection e1 with e1 _;cases e1
 ·injection e1 with _ e1;subst e2;exact⟨a,o,kvs,e0,e,(nS (ks:=kvs.map (·.1)) (by rw[Oc];exact e1)).symm,h2⟩
end TG
namespace TG
open PySem PySem.Spec L2
section
variable{prog:Qi}{w:Qh}{A:Qr}{E:Qg->Qs->Prop}{s:Qs}{it d:Qj}{i ep:Nat}{o:Obj}{es:Array DictEntry}
theorem zL{Q:Qg->Qs->Prop}(hd:(d==sysModules)=false)(ho:s.heap.get? d=some o)(hx:o.ExactDict)(hdat:o.data=.dict es ep)
  (hQ:Q (.ref s.heap.objs.size) {s with heap:=s.heap.push {cls:=.type "dict_keyiterator",data:=.fields #[.ref d,.int 0 0,.int es.size 0,.int ep 0]}}):Qu (model prog w) A (pyIter (.ref d)) Q E s:=by
 have hT:s.TypeIs (.ref d) "dict":=⟨o,ho,hx.1⟩
 refine wpAny_pyIter_slot hT F.slot_dict_iter (Q3 F.slot_dict_iter hT F.entry_dict_iter ?_ (F.args_dict_iter_1 _));unfold Builtin.«dict.__iter__»;refine QD ?_;unfold Builtin.Dict.dictSlotNone;refine QD (wpAny_notOrdered_dict hT ?_);show Qu _ _ (pure (Value.ref d)) _ _ s;refine QC ?_;show Qu _ _ (Builtin.Dict.showsAll d >>= _) _ _ s;unfold Builtin.Dict.showsAll;rw[if_neg (by rw[hd];exact MG)];refine QD (QC (QD (RE ho hdat (QD (RF ho hdat ?_)))));refine QD (Q5 (QC ⟨_,rfl,"dict_keyiterator",_,⟨_,PK _ rfl,rfl⟩,F.slot_dict_keyiterator_next.lookup,?_⟩));simpa [rawInt]using hQ
theorem AR{Q:Option Qg->Qs->Prop}(hit:s.heap.IsKeyIter it d i es.size ep)(hod:s.heap.get? d=some o)(hdd:o.data=.dict es ep)(hlt:i<es.size)
  (hQ:∀h',h'.IsKeyIter it d (i+1) es.size ep->PH it s.heap h'->Q (some es[i].key) {s with heap:=h'}):Qu (model prog w) A (pyNext (.ref it)) Q E s:=by
 obtain⟨oi,ho,hc,hd⟩:=id hit;unfold pyNext;refine QD (Rt (Q2 (name:=Str.ofString "__next__") hit.typeIs F.slot_dict_keyiterator_next (Q3 F.slot_dict_keyiterator_next hit.typeIs F.entry_dict_keyiterator_next ?_ (F.args_dict_keyiterator_next_1 _))));refine QD (QC (QD (QD ?_)));first|refine QD (RG hit.typeIs (QC ?_))|refine QD (RH hit.typeIs (QC ?_))
 refine QD (wpAny_fieldsOf ho hd ?_);have hown:Builtin.Dict_items.ownsTuple "dict_keyiterator"=false:=by decide
 simp only[hown,Ng,if_false];show Qu _ _ (if(Value.ref d==Value.none)=true then _ else _) _ _ s;rw[if_neg (show¬((Value.ref d==Value.none)=true)from MG)];refine QD (QC (QD (RE hod hdd ?_)));rw[if_neg (by simp)];refine QD (QC (QD (RF hod hdd ?_)));rw[if_neg (by simp)];refine QC ?_;simp only[show¬((i:Int)<0)from by omega,if_false,MT,Array.getElem?_eq_getElem hlt];refine QD ?_;first|refine QD (RG hit.typeIs (QC ?_))|refine QD (RH hit.typeIs (QC ?_))
 refine QD (wpAny_isOneOf_keyiter hit.typeIs ?_);show Qu _ _ (setField (.ref it) 1 (rawInt ((i:Int)+1)) >>= _) _ _ s;refine QD (Rj ho hd (by simp) ?_);have hit':(s.heap.update it (Obj.mapFields (·.setIfInBounds 1 (rawInt ((i:Int)+1))))).IsKeyIter it d (i+1) es.size ep:=⟨_,PN _ ho (Obj.isFreed_of_fields (Obj.data_mapFields hd _)),(Obj.cls_mapFields ..).trans hc,by rw[Obj.data_mapFields hd];simp[rawInt]⟩
 refine QD (Q1 (QD (wpAny_isOneOf_keyiter (s:={s with heap:=s.heap.update it (Obj.mapFields (·.setIfInBounds 1 (rawInt ((i:Int)+1))))}) hit'.typeIs ?_)));show Qu _ _ (pure es[i].key) _ _ _;exact QC (QC ⟨_,rfl,QC (hQ _ hit' (Heap.SameBut.update ..))⟩)
theorem C4{Q:Option Qg->Qs->Prop}(hh:A.handled=none)(hit:s.heap.IsKeyIter it d i es.size ep)(hod:s.heap.get? d=some o)(hdd:o.data=.dict es ep)(hge:es.size<=i)(hQ:∀h',Heap.ExtBut it s.heap h'->Q none {s with heap:=h'}):Qu (model prog w) A (pyNext (.ref it)) Q E s:=by
 obtain⟨oi,ho,hc,hd⟩:=id hit;unfold pyNext;refine QD (Rt (Q2 (name:=Str.ofString "__next__") hit.typeIs F.slot_dict_keyiterator_next (Q3 F.slot_dict_keyiterator_next hit.typeIs F.entry_dict_keyiterator_next ?_ (F.args_dict_keyiterator_next_1 _))));refine QD (QC (QD (QD ?_)));first|refine QD (RG hit.typeIs (QC ?_))|refine QD (RH hit.typeIs (QC ?_))
 refine QD (wpAny_fieldsOf ho hd ?_);have hown:Builtin.Dict_items.ownsTuple "dict_keyiterator"=false:=by decide
 simp only[hown,Ng,if_false];show Qu _ _ (if(Value.ref d==Value.none)=true then _ else _) _ _ s;rw[if_neg (show¬((Value.ref d==Value.none)=true)from MG)];refine QD (QC (QD (RE hod hdd ?_)));rw[if_neg (by simp)];refine QD (QC (QD (RF hod hdd ?_)));rw[if_neg (by simp)];refine QC ?_;simp only[show¬((i:Int)<0)from by omega,if_false,MT,Array.getElem?_eq_none hge];refine QD ?_;first|refine QD (RG hit.typeIs (QC ?_))|refine QD (RH hit.typeIs (QC ?_))
 show Qu _ _ (setField (.ref it) 0 .none >>= _) _ _ s;refine QD (Rj ho hd (by simp) ?_);show Qu _ _ (newExc (.type "StopIteration") [] >>= _) _ _ _;refine QD ?_;simp only[newExc,newTuple];refine QD (Q5 ?_ (by size_fits));refine QD (m:=firstArgMember _ _) (wpAny_of_eq (a:=Value.none) (by first|rfl|(simp only[firstArgMember];rfl)) ?_);refine Q5 ?_ (by size_fits);simp only[raiseNew];refine QD (wpAny_handled ?_);rw[show A.in1.handled=none from hh];refine QD (QC (wpAny_throw ?_));refine QD (Ru (T:="StopIteration") (b:=true) ⟨_,PK _ rfl,rfl⟩ isSubtype_stop ?_);exact QC (hQ _ (((Heap.SameBut.update ..).extBut.push _).push _))
def G5(d:Qj)(o:Obj)(es:Array DictEntry)(ep:Nat)(h:Ql):Prop:=h.get? d=some o/\o.ExactDict/\o.data=.dict es ep
theorem xP(hh:A.handled=none)(I:Qj)(hne:d≠I):Walks prog w A I [I,d] [I] es.size (λi v=>∃e,es[i]?=some e/\v=e.key) (λi h=>h.IsKeyIter I d i es.size ep/\G5 d o es ep h)where
 sub:=λb hb=>by simp at hb;simp[hb]
 frame:=λ_ _ _ st hk=>⟨st.1.at λo e=>hk I (by simp) o e,hk d (by simp) _ st.2.1,st.2.2⟩
 item:=λi s Q E hi st hQ=>AR st.1 st.2.1 st.2.2.2 hi λh' hit' hs'=>hQ _ h' s.toks ⟨es[i],by simp[hi],rfl⟩ ⟨hit',(hs'.2 d hne).trans st.2.1,st.2.2⟩ λb o hb e=>hs'.extBut b o (λh=>hb (by simp[h])) e
 done:=λs Q E st hQ=>C4 hh st.1 st.2.1 st.2.2.2 (MC _) λh' he'=>hQ h' s.toks λb o hb e=>he' b o (λh=>hb (by simp[h])) e
 self:=λ_ _ _ _ st hQ=>wpAny_pyIter_keyiter st.1 hQ
theorem B5(lo:(d==sysModules)=false):PySem.W.KdlSrc prog w "dict" d d es.size (λi v=>∃e,es[i]?=some e/\v=e.key) (G5 d o es ep)where
 type:=λ_ hm=>⟨o,hm.1,hm.2.1.1⟩
 there:=λ_ hm=>⟨PD hm.1,PD hm.1⟩
 keep:=λ_ _ hm hk=>⟨hk d (.inl rfl) o hm.1,hm.2⟩
 notList:=by decide
 notTuple:=by decide
 hint:=λ_ _ _ _ hm hq=>PySem.W.kdl_hint_dict ⟨o,hm.1,hm.2.1.1⟩ hq
 iter:=λ_ _ hh hm=>⟨_,_,(λ_ _ hq=>zL lo hm.1 hm.2.1 hm.2.2 hq),xP (ep:=ep) (o:=o) hh _ (Mq (PD hm.1)),⟨⟨_,PK _ rfl,rfl,rfl⟩,PJ _ hm.1,hm.2⟩⟩
end
variable[bc]
def Dg:List D->List D->Option (List (List Key×D))
 |.non::ks,ds=>pq ks ds
 |ks,ds=>pq ks ds
theorem zu{K:OZ}{H:Hp}{v:V}{ks ds:List D}{al:List (List Key×D)}(h:cO K H (.dct ks ds) v)(e:Dg ks ds=some al):
  ∃a,v=.ref a/\((∃kvs:List (List Key×V),Rd H a (.dT kvs)/\kvs.map (·.1)=al.map (·.1)/\bh K H (al.map (·.2)) (kvs.map (·.2)))\/(H a=some (.dK [])/\al=[])):=by
 unfold Dg at e;split at e
 ·obtain⟨f1,f2⟩:=nK e;subst f1 f2;obtain⟨a,o,kvs,q1,q2,q3,q4⟩:=Bz h;exact⟨a,q1,.inl ⟨kvs,.inr ⟨o,q2⟩,q3,q4⟩⟩
 ·obtain⟨f1,f2⟩:=nK e;subst f1 f2;obtain⟨a,q1,q2⟩:=rj h;rcases q2 with⟨kvs,q2,q3⟩|q2
  ·exact⟨a,q1,.inl ⟨kvs,.inl q2,q3⟩⟩
  ·exact⟨a,q1,.inr q2⟩
section
variable{X:Cx}
def o6:List D->Option D
 |[.dct ks ds]=>(Dg ks ds).bind λal=>some (.lst (encK al))
 |_=>none
theorem BA{pins:List (Qj×Obj)}{σ:St}{H:Hp}{s:Qs}(I:Inv X pins σ H s){a:Qj}{kvs:List (List Key×V)}(e:Rd H a (.dT kvs)):kvs.length<=Qm/\(a==sysModules)=false/\∃o es ep,G5 a o es ep s.heap/\es.size=kvs.length/\∀(i:Nat) u,es[i]?=some u->∃b q,u.key=.ref b/\kvs[i]?.map (·.1)=some q/\H b=some (.tup (q.map kV)):=by
 obtain⟨z,hd,xs,rel,o,es,ep,h1,h2,h3,h4,_⟩:=sR I.hok e;have hl:es.size=kvs.length:=by rw[<-Array.length_toList,h4,MS];exact(Paired.length rel).symm
 refine⟨z,hd,o,es,ep,⟨h1,h2,h3⟩,hl,λi u eu=>?_⟩;have hi:i<kvs.length:=by
  have:=(Array.getElem?_eq_some_iff.mp eu).1
  omega
 obtain⟨x,ex,f1,f2,f3⟩:=xV rel (i:=i) (x:=kvs[i]) (by simp[hi])
 have:es.toList[i]?=some (entryOfKey (tupleKind (cM X.prog X.w)) x):=by rw[h4,MP,ex];rfl
 rw[Array.getElem?_toList,eu]at this;cases this;exact⟨x.2.1,kvs[i].1,rfl,by simp[hi],f2⟩
theorem xO(hc:X.calm=true):dN X (.type "list") (xD X.K o6):=by
 intro pins s σ H xs us Q I r ⟨O,ds,d,hO,hd,hg,q⟩;unfold o6 at hg;split at hg
 ·rename_i ks vs0;cases hk:Dg ks vs0 with
  |none=>rw[hk]at hg;cases hg
  |some al=>
   rw[hk]at hg;cases hg;obtain⟨v,ev,h1⟩:=hd.one;subst ev;obtain⟨a,ea,hh⟩:=zu h1 hk;subst ea;obtain⟨u,rfl,ru⟩:=vals1 r;cases ru;have fin:∀(H0:Hp)(kvs:List (List Key×V)),Inv X pins σ H0 s->Rd H0 a (.dT kvs)->kvs.map (·.1)=al.map (·.1)->(∀b ys,H0 b=some (.tup ys)->H b=some (.tup ys))->Qu (model X.prog X.w) X.A (call (.type "list") [.ref a]) (EP X pins σ Q) X.xe s:=λH0 kvs I0 hr hk2 ht=>by
    obtain⟨z,hs,o,es,ep,raw,hsz,hkey⟩:=BA I0 hr;have hl:al.length=kvs.length:=(by have:=congrArg List.length hk2;simpa using this.symm);refine Py (B5 hs) (I.ok.hd hc) raw (by rw[hsz];exact z) λh' tk acc' c' kp e2 it=>?_;have key:∃ws:List V,Vals ws acc'.toList/\bh X.K (hid H O) (encK al) ws:=by
     have hlen:acc'.toList.length=al.length:=(by rw[Array.length_toList,it.1,hsz,hl]);have each:∀(j:Nat)(u:Qg),acc'.toList[j]?=some u->∃b q,u=.ref b/\al[j]?.map (·.1)=some q/\H b=some (.tup (q.map kV)):=λj u e=>by
      obtain⟨en,e3,e4⟩:=it.2 j u (by rw[<-Array.getElem?_toList];exact e);obtain⟨b,q,w1,w2,w3⟩:=hkey j en e3;refine⟨b,q,by rw[e4,w1],?_,ht _ _ w3⟩
      have:=congrArg (λl=>l[j]?) hk2
      simp only[MP]at this;rw[<-this];exact w2
     clear it e2;generalize acc'.toList=us at hlen each;clear hk hl hk2 h1 hh q
     induction us generalizing al with
     |nil=>
      cases al with
      |nil=>exact⟨[],.nil,cU.mpr rfl⟩
      |cons _ _=>cases hlen
     |cons u us ih=>
      cases al with
      |nil=>cases hlen
      |cons p al=>
       obtain⟨ws,w1,w2⟩:=ih (al:=al) (by simpa using hlen) λj u e=>by
        have:=each (j+1) u (by rw[NS];exact e)
        rw[NS]at this;exact this
       obtain⟨b,q,e1,e2,e3⟩:=each 0 u rfl;cases e2;have bO:b∉O:=λz=>by
        obtain⟨u',q1,q2⟩:=hO.2 b z;rw[e3]at q1;cases q1;exact q2
       exact⟨.ref b::ws,.cons (by rw[e1];rfl) w1,bE.mpr ⟨.ref b,ws,rfl,cD.mpr ⟨b,_,rfl,by rw[js bO];exact e3,zy p.1⟩,w2⟩⟩
    obtain⟨ws,rv,dn⟩:=key;have wl:ws.length<=Qm:=(by rw[<-dn.length,MS,hl];exact z);refine⟨.ref s.heap.objs.size,_,I.laid (t':=tk) kp (MC _) (show cJ X.prog X.w _ h' _ (.lst ws)from⟨wl,acc'.toList,c',rv,by simpa using e2⟩),rfl,?_⟩;have hf:=I.hok.fresh (MC s.heap.objs.size);exact q _ _ (bW hf _) (dh hO hf dn)
   rcases hh with⟨kvs,hr,e1,_⟩|⟨hr,e1⟩
   ·refine fin H kvs I ?_ e1 λ_ _ z=>z;rcases hr with hr|⟨o,hr⟩
    ·exact .inl ((aI H O) _ _ hr)
    ·exact .inr ⟨o,(aI H O) _ _ hr⟩
   ·have ha:=(aI H O) _ _ hr;refine fin _ [] (Ec I ha) (.inl aZ) (by rw[e1];rfl) λb ys eb=>?_;by_cases z:b=a
    ·rw[z,aZ]at eb;cases eb
    ·rw[aM z]at eb;exact eb
 ·cases hg
end
end TG
namespace TG
open PySem PySem.Spec PySem.Calls L2
variable[bc]
def q5(dd k:D):Option D:=match dd with
 |.dct ks ds=>(Dg ks ds).bind λal=>(jp k).bind λq=>oT al q
 |_=>none
theorem GC{H:Hp}{O:List Qj}{a:Qj}{u:HO}(h:Rd (hid H O) a u):Rd H a u:=by
 rcases h with h|⟨o,h⟩
 ·exact .inl ((aI H O) _ _ h)
 ·exact .inr ⟨o,(aI H O) _ _ h⟩
section
variable{X:Cx}
theorem K2{o e:Qv}{fo fk:FX}{pos:Pos}(hu:X.A.units+64<QQ)(ho:FE X o fo)(hi:FE X e fk)(hs:DR e):FE X (.Subscript o e pos) (f2 q5 fo fk):=
 PE.weak (D6 ‹0› ho hi hs) λσ H Q ⟨O,ρ,E,hF⟩=>⟨O,ρ,E,(iX.bind hF).imp λdd hF v H1 s1 d1=>⟨O,ρ,E.same s1,((iX.bind hF).mono s1).imp λk hF y H2 s2 d2=>by
  obtain⟨d,hg,q⟩:=iX.rO hF;cases dd with
  |dct ks ds=>
   have hg:(Dg ks ds).bind (λal=>(jp k).bind λq=>oT al q)=some d:=hg;cases hk:Dg ks ds with
   |none=>rw[hk]at hg;cases hg
   |some al=>
    rw[hk]at hg;cases ht:jp k with
    |none=>rw[ht]at hg;cases hg
    |some qk=>
     rw[ht]at hg;have hg:oT al qk=some d:=hg;obtain⟨a,ea,hh⟩:=zu (d1.mono (cw s2)) hk;rw[n5 ht]at d2;obtain⟨b,ws,eb,g1,g2⟩:=cD.mp d2;rw[iM g2]at g1;rcases hh with⟨kvs,hr,e1,e2⟩|⟨_,rfl⟩
     ·rcases wx qk e1 e2 with⟨_,z2⟩|⟨w,d',z1,z2,z3⟩
      ·rw[z2]at hg;cases hg
      ·rw[z2]at hg;cases hg;exact⟨a,w,ea,by rw[<-z1];exact .inr ⟨kvs,qk,b,GC hr,eb,(aI H2 O) _ _ g1,rfl⟩,q w H2 (s1.trans s2) z3⟩
     ·cases hg
  |_=>cases hg⟩⟩
end
end TG
namespace L2
open PySem PySem.Spec PyProof.Rows
end L2
namespace TG
open PySem PySem.Spec L2
variable[bc]
end TG
namespace TG
open PySem PySem.Spec L2
variable[bc]
section
variable{K:OZ}{Hb H:Hp}{Ob O:List Qj}{ρ:aw}{σ:St}
theorem dL.hide(E:dL K Hb Ob O H ρ σ){p:Qj}{o:HO}(m:sE o)(hp:H p=none):dL K Hb Ob (p::O) (upd H p o) ρ σ:=
 ⟨E.env.hideNew m hp,⟨E.base.same.trans (bW hp o),fun a ha=>Mw _ (E.base.sub a ha),fun a ha=>by
  rcases List.mem_cons.mp ha with z|z
  ·rw[z];exact .inr (E.base.same.free hp)
  ·exact E.base.new a z⟩,E.mine,λj d q=>(E.nst j d q).to rfl (qZ hp) (λb q1 q2 q3 q4 ⟨o',ho⟩=>⟨aM (bd ho hp),Mw _ q1,q2,q4⟩) λl d' w=>⟨d',w⟩⟩
theorem dL.new(E:dL K Hb Ob O H ρ σ){p:Qj}(hp:H p=none):Hb p=none/\p∉Ob/\∀(j:Nat) d',ρ[j]?=some (some (.own d'))->σ[j]?≠some (some (.ref p)):=by
 have pO:=E.env.all.not hp;refine⟨E.base.same.free hp,λz=>pO (E.base.sub p z),λj d' w z=>?_⟩;obtain⟨c,e1,e2,_⟩:=E.env.own j d' w;rw[z]at e1;cases e1;exact pO e2
theorem dL.setL(E:dL K Hb Ob O H ρ σ){i:Nat}(hi:i<σ.length)(hn:Hk ρ=true){p:Qj}{bs:List Qj}{d:D}(new:ud K H O p bs d)(nd:(p::bs).Nodup)(hb:∀b∈p::bs,b∈O/\Hb b=none/\b∉Ob/\∀(j:Nat) d',ρ[j]?=some (some (.own d'))->σ[j]?≠some (some (.ref b))):
  dL K Hb Ob O H (ρ.set i (some (.nest d))) (σ.set i (some (.ref p))):=by
 have key:∀(j:Nat)(x:S),(ρ.set i (some (.nest d)))[j]?=some (some x)->(j=i/\x=.nest d)\/(j≠i/\ρ[j]?=some (some x)/\(σ.set i (some (.ref p)))[j]?=σ[j]?):=λj x e=>by
  rcases bp e with⟨hj,q⟩|⟨ne,q⟩
  ·cases q;exact .inl ⟨hj,rfl⟩
  ·exact .inr ⟨ne,q,Mz (Ne.symm ne)⟩
 have own:∀(j:Nat) xs,(ρ.set i (some (.nest d)))[j]?=some (some (.own xs))->ρ[j]?=some (some (.own xs))/\(σ.set i (some (.ref p)))[j]?=σ[j]?:=λj xs e=>by
  rcases key j _ e with⟨_,q⟩|⟨_,q⟩
  ·cases q
  ·exact q
 refine⟨⟨λj d1 e=>?_,λj xs e=>?_,λj l xs ys a e1 e2 e3 e4=>?_,E.env.all⟩,E.base,λj xs a e1 e2=>?_,λj dn e=>?_⟩
 ·rcases key j _ e with⟨_,q⟩|⟨_,q,w⟩
  ·cases q
  ·rw[w];exact E.env.val j d1 q
 ·obtain⟨q,w⟩:=own j xs e;rw[w];exact E.env.own j xs q
 ·obtain⟨q1,w1⟩:=own j xs e1;obtain⟨q2,w2⟩:=own l ys e2;rw[w1]at e3;rw[w2]at e4;exact E.env.one j l xs ys a q1 q2 e3 e4
 ·obtain⟨q,w⟩:=own j xs e1;rw[w]at e2;exact E.mine j xs a q e2
 ·rcases key j _ e with⟨hj,q⟩|⟨_,q,_⟩
  ·cases q;subst hj;refine⟨p,bs,My hi,new,nd,λb h=>?_,λl d' w=>?_⟩
   ·obtain⟨w1,w2,w3,w4⟩:=hb b h;exact⟨w1,w2,w3,λl d' w=>by obtain⟨q,z⟩:=own l d' w;rw[z];exact w4 l d' q⟩
   ·rcases key l _ w with⟨hl,_⟩|⟨_,q,_⟩
    ·exact hl
    ·exact absurd q (n0 hn l d')
  ·exact absurd q (n0 hn j dn)
theorem wK:∀{bs:List Qj}{xs:List D}{c:Nat}{x:D},qI K H O bs xs->bs.Nodup->xs[c]?=some x->∃b,bs[c]?=some b/\eE K H O b x/\∀(H':Hp)(O':List Qj)(x':D),(∀c'∈bs,c'≠b->∀z,eE K H O c' z->eE K H' O' c' z)->eE K H' O' b x'->qI K H' O' bs (xs.set c x')
 |b::bs,y::xs,0,x,h,nd,e=>by
  cases e;exact⟨b,rfl,h.1,λH' O' x' f n=>⟨n,h.2.imp λc hc=>f c (Mw _ hc) λz=>(List.nodup_cons.mp nd).1 (by rw[<-z];exact hc)⟩⟩
 |b::bs,y::xs,c+1,x,h,nd,e=>by
  obtain⟨b',q1,q2,q3⟩:=wK h.2 (List.nodup_cons.mp nd).2 (show xs[c]?=some x from e);exact⟨b',q1,q2,λH' O' x' f n=>⟨f b Mv (λz=>(List.nodup_cons.mp nd).1 (by rw[z];exact MQ q1)) _ h.1,q3 H' O' x' (λc' hc=>f c' (Mw _ hc)) n⟩⟩
 |[],_::_,_,_,h,_,_=>h.elim
 |[],[],_,_,_,_,e=>by simp at e
end
def pL(i:Nat):cx:=λk ρ=>if Hk ρ then k.nx (ρ.set i (some (.nest (.lst [.lst [],.lst []]))))else un
def pN(i c:Nat)(f:FX):cx:=λk ρ=>match ρ[i]? with
 |some (some (.nest (.lst xs)))=>(match xs[c]? with
  |some (.lst ys)=>(Ci (f ρ)).bind λv=>if small (ys.length+1)then k.nx (ρ.set i (some (.nest (.lst (xs.set c (.lst (ys++[v])))))))else un
  |_=>un)
 |_=>un
theorem yo{i c:Nat}{f:FX}{k:Ks}{ρ:aw}{r:R D}(h:pN i c f k ρ=r)(hr:r≠un):∃xs ys v,ρ[i]?=some (some (.nest (.lst xs)))/\xs[c]?=some (.lst ys)/\f ρ=.ok v/\small (ys.length+1)=true/\k.nx (ρ.set i (some (.nest (.lst (xs.set c (.lst (ys++[v])))))) )=r:=by
 unfold pN at h;split at h
 ·rename_i xs hi;split at h
  ·rename_i ys hc;cases e1:f ρ with
   |error z=>rw[e1]at h;exact absurd h.symm hr
   |ok v=>
    rw[e1]at h;have h:(if small (ys.length+1)then k.nx (ρ.set i (some (.nest (.lst (xs.set c (.lst (ys++[v])))))))else un)=r:=h;cases hs:small (ys.length+1)with
    |false=>rw[hs]at h;exact absurd h.symm hr
    |true=>rw[hs]at h;exact⟨xs,ys,v,hi,hc,rfl,hs,h⟩
  ·exact absurd h.symm hr
 ·exact absurd h.symm hr
section
variable{X:Cx}
theorem Ij{i:Nat}{x:Str}{l1 l2 l3 pos pos':Pos}(hN:X.N.Nodup)(hi:X.N[i]?=some x)(hx:Loc X.env.scope x)(hs:swapsWith (.List [.List [] l1,.List [] l2] l3) (some (.Name x pos')) pos.line X.env=pure false:=by rfl)(hf:X.fn x=true\/X.env.scope.names.lookup x=some .local:=by first|exact .inl rfl|exact .inr rfl|assumption):
  FS X (.Assign [.Name x pos'] (.List [.List [] l1,.List [] l2] l3) pos) (pL i):=λHb Ob pins s σ H E I ⟨O,ρ,k,r,S,hF,hk⟩=>by
 unfold pL at hF;cases hn:Hk ρ with
 |false=>rw[hn]at hF;exact absurd hF.symm hk.ne
 |true=>
  rw[hn]at hF;refine xZ hN hi hx (rV (mQ (rV oE) (mQ (rV oE) oE))) hs hf pins s σ H E I ?_;refine⟨MI _,λp1 h1=>⟨MI _,λp2 h2=>⟨by show 2<=Qm;decide,λp hp=>?_⟩⟩⟩;have S1:=S.hide (o:=.lst []) trivial h1;have S2:=S1.hide (o:=.lst []) trivial h2;have S3:=S2.hide (o:=.lst [.ref p1,.ref p2]) trivial hp;obtain⟨a1,a2,a3⟩:=S.new h1;obtain⟨b1,b2,b3⟩:=S1.new h2;obtain⟨c1,c2,c3⟩:=S2.new hp;have n12:p1≠p2:=bd aZ h2;have n1:p1≠p:=bd (by rw[aM n12];exact aZ) hp;have n2:p2≠p:=bd aZ hp;refine hk.nx _ _ _ _ (S3.setL (by rw[I.len];exact(List.getElem?_eq_some_iff.mp hi).1) hn (bs:=[p1,p2]) ⟨[.lst [],.lst []],⟨⟨_,[],by rw[aM n1,aM n12];exact aZ,rfl,cU.mpr rfl⟩,⟨_,[],by rw[aM n2];exact aZ,rfl,cU.mpr rfl⟩,trivial⟩,.inl ⟨rfl,aZ⟩⟩ (by simp[n12,n1.symm,n2.symm]) λb hb=>?_) hF;rcases List.mem_cons.mp hb with z|hb
  ·rw[z];exact⟨Mv,c1,c2,c3⟩
  ·rcases List.mem_cons.mp hb with z|hb
   ·rw[z];exact⟨by simp,a1,a2,a3⟩
   ·rw[List.mem_singleton.mp hb];exact⟨by simp,b1,b2,b3⟩
theorem JC{i c:Nat}{ci:Int}{x:Str}{ve:Qv}{fv:FX}{j:Nat}{npos jpos spos ap cp pos:Pos}(hx:PE X (.Name x npos) (wG i))(hve:FE X ve fv)(hci:ci=(c:Int):=by rfl)(hpl:nT (.Constant (.int ci) j jpos):=by intro _ _;rfl)(hn2:noStar ve=true:=by rfl)
  (hb2:Q8 (.Subscript (.Name x npos) (.Constant (.int ci) j jpos) spos) "append" X.env (eval (.Subscript (.Name x npos) (.Constant (.int ci) j jpos) spos) X.env)=eval (.Subscript (.Name x npos) (.Constant (.int ci) j jpos) spos) X.env:=by rfl)
  (hf2:((backTo cp (Qw [ve] X.env)).all (λx=>!x.1)&&(backToKw cp (QO [] X.env)).all (λx=>x.1.isSome)&&decide (([ve]:List Qv).length+([]:List Q9).length+(if([]:List Q9).isEmpty then 0 else 1)<30))=true:=by rfl)
  (hl2:(ap.endLine==cp.line)=true:=by rfl) (hp2:(backTo cp (Qw [] X.env)).any (·.1)=false:=by rfl)
  (hsw:swapsWith (.Call (.Attribute (.Subscript (.Name x npos) (.Constant (.int ci) j jpos) spos) "append" ap) [ve] [] cp) none pos.line X.env=pure false:=by rfl):
  FS X (.Expr (.Call (.Attribute (.Subscript (.Name x npos) (.Constant (.int ci) j jpos) spos) "append" ap) [ve] [] cp) pos) (pN i c fv):=λHb Ob pins s σ H E I ⟨O,ρ,k,rr,S,hF,hk⟩=>by
 obtain⟨xs,ys,v,hi,hxc,hfv,hsm,hnx⟩:=yo hF hk.ne;subst hci;obtain⟨a,bs,ha,⟨xs',hO,hat⟩,nd,hbs,one⟩:=S.nst i _ hi;obtain⟨rfl,hHa⟩:xs'=xs/\H a=some (.lst (bs.map .ref)):=by
  rcases hat with⟨e,q⟩|⟨_,e,_⟩|⟨e,_⟩
  ·cases e;exact⟨rfl,q⟩
  ·cases e
  ·cases e
 obtain⟨na,nb⟩:=List.nodup_cons.mp nd;obtain⟨aO,aHb,aOb,aS⟩:=hbs a Mv;obtain⟨l,hl,⟨o,wl,hl3,eo,dl⟩,new⟩:=wK hO nb hxc;subst eo;have lb:=MQ hl;have la:l≠a:=λz=>na (by rw[<-z];exact lb);obtain⟨lO,lHb,lOb,lS⟩:=hbs l (Mw _ lb);refine yP (Fl F.plainAttrs_list F.slot_list_append F.type_list_append cY (EC zD hx By hpl) (DJ hve GZ hn2) hb2 hf2 hl2 (e7 hn2) hp2) hsw pins s σ H E I ?_;refine⟨.ref a,ha,a,bs.map .ref,(c:Int),.ref l,rfl,rfl,nG.of hHa,Eu (by rw[MP,hl];rfl),.inl ⟨rfl,wl,nG.of hl3⟩,O,ρ,S.env,?_⟩;have e1:(af fv av) ρ=.ok [v]:=by
  show(fv ρ).bind _=_;rw[hfv];rfl
 rw[e1];intro vs H4 s4 dv;obtain⟨y',rfl,dy⟩:=dv.one;have hl4:=s4 _ _ hl3;have sm5:bz (hid H O) (hid (upd H4 l (.lst (wl++[y']))) O):=(cw s4).trans (jj lO);have wlen:=dl.length;refine⟨l,wl,y',rfl,rfl,hl4,by rw[<-wlen];exact Mo (Nat.lt_of_succ_le (of_decide_eq_true hsm)) (by decide),hk.nx O _ σ _ (S.setN hi (λc hc=>hc) sm5 ⟨λc u h=>?_,S.base.sub,S.base.new⟩ ((S.env.all.same s4).upd lO trivial) (λj xs c w1 w2=>?_) ?_) hnx⟩
 ·have cl:c≠l:=λz=>by rw[z,lHb]at h;cases h
  rw[aM cl];exact s4 _ _ (S.base.same c u h)
 ·obtain⟨c',q1,q2,q3⟩:=S.env.own j xs w1;rw[w2]at q1;cases q1;obtain⟨o,ho⟩:=q3.some;have cl:c≠l:=λz=>lS j xs w1 (by rw[<-z];exact w2);rw[ho,aM cl];exact(s4 _ _ ho).symm
 ·have own:∀(j:Nat) d' d2,(ρ.set i (some (.nest d2)))[j]?=some (some (.own d'))->ρ[j]?=some (some (.own d')):=λj d' d2 w=>by
   rcases bp w with⟨_,z⟩|⟨_,z⟩
   ·cases z
   ·exact z
  refine⟨a,bs,ha,⟨_,new _ _ (.lst (ys++[v])) (λc hc ne x hx=>hx.mono ?_ sm5) ⟨_,_,aZ,rfl,?_⟩,.inl ⟨rfl,?_⟩⟩,nd,λc hc=>?_,λj d' w=>?_⟩
  ·obtain⟨o,ho⟩:=hx.some;rw[aM ne,ho,s4 _ _ ho]
  ·exact(dl.mono sm5).append (bE.mpr ⟨y',[],rfl,dy.mono (jj lO),cU.mpr rfl⟩)
  ·rw[aM (Ne.symm la)];exact s4 _ _ hHa
  ·obtain⟨w1,w2,w3,w4⟩:=hbs c hc;exact⟨w1,w2,w3,λj d' w=>w4 j d' (own j d' _ w)⟩
  ·rcases bp w with⟨hj,_⟩|⟨_,z⟩
   ·exact hj
   ·exact one j d' z
end
end TG
namespace TX
open PySem PySem.Spec L2 TG
variable[bc]
structure XE(X:Cx)(e:Qv)(F:FX):Prop where h:FE X e F
structure XT(X:Cx)(e:Qv)(F:aw->R Bool):Prop where h:FT X e F
structure XW(X:Cx)(e:Qv)(F:aw->R Bool):Prop where h:FW X e F
structure XA(X:Cx)(e:List Qv)(F:aw->R (List D)):Prop where h:FA X e F
structure XS(X:Cx)(e:Qx)(F:cx):Prop where h:FS X e F
structure xN(X:Cx)(e:List Qx)(F:cx):Prop where h:xB X e F
structure XI(X:Cx)(t e:Qv)(F:aw->R (List D)):Prop where h:FI X t e F
structure XG(X:Cx)(e:Qv)(F:GF):Prop where h:FG X e F
structure JG(X:Cx)(e:List Qv)(F:Be):Prop where h:IM X e F
structure XO(X:Cx)(e:Option Qv)(F:aw->R (Option Int)):Prop where h:FO X e F
structure XN(X:Cx)(e:Qv)(F:FX):Prop where h:FN X e F
structure Ka(X:Cx)(e:List Qv)(F:aw->R Bool):Prop where h:Ji X e F
structure XV(X:Cx)(e:Qv)(i:Nat):Prop where h:PE X e (wG i)
structure XB(X:Cx)(scope:Qt)(N:List Str)(tg elt:Qv)(ifs:List Qv)(g:GF)(C:aw->R Bool)(Fe:FX)(cl:List (Str×Qj))(C':Qj)(fp:List Qj)(s:Qs)(H:Hp)(E:Qg->Qs->Prop):Prop where
 a:XG (cF X scope N cl C' fp s H E) tg g
 b:Ka (cF X scope N cl C' fp s H E) ifs C
 c:XE (cF X scope N cl C' fp s H E) elt Fe
structure CH(X:Cx)(scope:Qt)(N:List Str)(tg elt:Qv)(ifs:List Qv)(g:GF)(C:aw->R Bool)(Fe:FX):Prop where
 q:∀cl C' fp s H E,XB X scope N tg elt ifs g C Fe cl C' fp s H E
theorem CH.h{X:Cx}{scope:Qt}{N:List Str}{tg elt:Qv}{ifs:List Qv}{g:GF}{C:aw->R Bool}{Fe:FX}(x:CH X scope N tg elt ifs g C Fe):Ht X scope N tg elt ifs g C Fe:=λcl C' fp s H E=>⟨(x.q cl C' fp s H E).a.h,(x.q cl C' fp s H E).b.h,(x.q cl C' fp s H E).c.h⟩
theorem xv{X:Cx}(i:Nat){x:Str}{pos:Pos}(hN:X.N[i]?=some x:=by rfl)(hv:Gi X.env.scope x:=by first|exact Or.inl rfl|exact Or.inr (Or.inl rfl)|exact Or.inr (Or.inr rfl))(hd:(x==("__debug__":Str))=false:=by decide)
  (hcd:(x==("__classdict__":Str))=false:=by decide):XV X (.Name x pos) i:=⟨pv i hN hv hd hcd⟩
theorem De{X:Cx}{e:Qv}{f:aw->R Bool}(h:XW X e f):XT X e f:=⟨FW.ft h.h⟩
section
variable[bc]{X:Cx}
theorem aa{i:Nat}{x:Str}{pos:Pos}(h:XV X (.Name x pos) i):XE X (.Name x pos) (ah i):=⟨TG.J0 h.h⟩
end
section
variable[bc]{X:Cx}
theorem ai{i j pos}:XE X (.Constant (.int i) j pos) (fC (.int i)):=⟨TG.Lr ⟩
end
section
variable[bc]{X:Cx}
theorem gK{b j pos}:XE X (.Constant (.bool b) j pos) (fC (.bl b)):=⟨TG.LC ⟩
end
section
variable[bc]{X:Cx}
theorem cK{x j pos}:XE X (.Constant (.str x) j pos) (fC (.str x)):=⟨TG.KJ ⟩
end
section
variable[bc]{X:Cx}
theorem aj:XA X [] av:=⟨TG.GZ ⟩
end
section
variable[bc]{X:Cx}
theorem ae{e:Qv}{es:List Qv}{f:FX}{g:aw->R (List D)}(he:XE X e f)(hs:XA X es g)(hns:noStar e=true:=by rfl):XA X (e::es) (af f g):=⟨TG.DJ he.h hs.h hns⟩
end
section
variable[bc]{X:Cx}
theorem bo{es:List Qv}{g:aw->R (List D)}{k pos}(h:XA X es g):XE X (.Tuple es k pos) (bT g):=⟨TG.JO h.h⟩
end
section
variable[bc]{X:Cx}
theorem du{es:List Qv}{g:aw->R (List D)}{pos}(h:XA X es g):XE X (.List es pos) (fJ g):=⟨TG.K6 h.h⟩
end
section
variable[bc]{X:Cx}
theorem aq{a b:Qv}{op:Operator}{r:R2}{g:D->D->Option D}{fa fb:FX}{pos:Pos}(ho:kQ X (QI op) r)(s:dW X.K r g)(ha:XE X a fa)(hb:XE X b fb):XE X (.BinOp a op b pos) (f2 g fa fb):=⟨TG.K9 ho s ha.h hb.h⟩
end
section
variable[bc]{X:Cx}
theorem qg{a b:Qv}{op:CmpOp}{r:R2}{g:D->D->Option D}{fa fb:FX}{pos:Pos}(ho:kQ X (QJ op) r)(s:dW X.K r g)(ha:XE X a fa)(hb:XE X b fb)(hm:QK op b=false):XE X (.Compare a [op] [b] pos) (f2 g fa fb):=⟨TG.Lf ho s ha.h hb.h hm⟩
end
section
variable[bc]{X:Cx}
theorem bv{a b:Qv}{op:CmpOp}{r:R2}{g:D->D->Option D}{fa fb:FX}{pos:Pos}(ho:kQ X (QJ op) r)(s:dW X.K r g)(ha:XE X a fa)(hb:XE X b fb)(hm:QK op b=false):XT X (.Compare a [op] [b] pos) (fB (f2 g fa fb)):=⟨TG.Ld ho s ha.h hb.h hm⟩
end
section
variable[bc]{X:Cx}{a b c:Qv}{rest:List Qv}{pos:Pos}{f g:aw->R Bool}
theorem mO(h:XT X a f):XT X (.UnaryOp .Not a pos) (vx f):=⟨TG.Kq h.h⟩
end
section
variable[bc]{X:Cx}{a b c:Qv}{rest:List Qv}{pos:Pos}{f g:aw->R Bool}
theorem nZ(h:XT X a f):XW X (.BoolOp .And [a] pos) f:=⟨TG.Jl h.h⟩
end
section
variable[bc]{X:Cx}{a b c:Qv}{rest:List Qv}{pos:Pos}{f g:aw->R Bool}
theorem mG(h:XT X a f):XW X (.BoolOp .Or [a] pos) f:=⟨TG.Le h.h⟩
end
section
variable[bc]{X:Cx}{a b c:Qv}{rest:List Qv}{pos:Pos}{f g:aw->R Bool}
theorem qd(ha:XT X a f)(hb:XW X (.BoolOp .And (b::rest) pos) g):XW X (.BoolOp .And (a::b::rest) pos) (vw f g):=⟨TG.KO ha.h hb.h⟩
end
section
variable[bc]{X:Cx}{a b c:Qv}{rest:List Qv}{pos:Pos}{f g:aw->R Bool}
theorem pA(ha:XT X a f)(hb:XW X (.BoolOp .Or (b::rest) pos) g):XW X (.BoolOp .Or (a::b::rest) pos) (BG f g):=⟨TG.LR ha.h hb.h⟩
end
section
variable[bc]{X:Cx}{a b c:Qv}{rest:List Qv}{pos:Pos}{f g:aw->R Bool}{fa fb:FX}
theorem vh{op}(h:XE X a fa):XE X (.BoolOp op [a] pos) fa:=⟨TG.JR h.h⟩
end
section
variable[bc]{X:Cx}{a b c:Qv}{rest:List Qv}{pos:Pos}{f g:aw->R Bool}{fa fb:FX}
theorem qx(ha:XE X a fa)(hb:XE X (.BoolOp .And (b::rest) pos) fb):XE X (.BoolOp .And (a::b::rest) pos) (rS fa fb):=⟨TG.Lw ha.h hb.h⟩
end
section
variable[bc]{X:Cx}
theorem aB{a b:Qv}{fa fb:FX}{pos:Pos}(ha:XE X a fa)(hb:XE X b fb)(hs:nT b):XE X (.Subscript a b pos) (f2 aE fa fb):=⟨TG.LD ha.h hb.h hs⟩
end
section
variable[bc]{X:Cx}
theorem bH:XO X none aY:=⟨TG.Js ⟩
end
section
variable[bc]{X:Cx}
theorem bI{e:Qv}{f:FX}(h:XE X e f):XO X (some e) (bV f):=⟨TG.Jh h.h⟩
end
section
variable[bc]{X:Cx}
theorem bx{e:Qv}{f:FX}{l h:aw->R (Option Int)}{lo hi:Option Qv}{p2 pos:Pos}(he:XE X e f)(hl:XO X lo l)(hh:XO X hi h):XE X (.Subscript e (.Slice lo hi none p2) pos) (bw f l h):=⟨TG.HG he.h hl.h hh.h⟩
end
section
variable[bc]{X:Cx}{x:Str}{p pos:Pos}{e:Qv}{es:List Qv}{id T:String}{g:List D->Option D}{f:aw->R (List D)}
theorem bu(hc:dN X (.builtin id) (xD X.K g))(hg:Gl X x)(hm:X.mg x=none)(hv:Qq x=some (.builtin id))(ha:XA X (e::es) f)(hn:x≠"__name__":=by decide)(hdb:(x==("__debug__":Str))=false:=by decide)(hns:(e::es).all noStar=true:=by rfl):XE X (.Call (.Name x p) (e::es) [] pos) (fL g f):=⟨TG.HH hc hg hm hv ha.h hn hdb hns⟩
end
section
variable[bc]{X:Cx}{x:Str}{p pos:Pos}{e:Qv}{es:List Qv}{id T:String}{g:List D->Option D}{f:aw->R (List D)}
theorem bD(hc:dN X (.type T) (xD X.K g))(hg:Gl X x)(hm:X.mg x=none)(hv:Qq x=some (.type T))(ha:XA X (e::es) f)(hn:x≠"__name__":=by decide)(hdb:(x==("__debug__":Str))=false:=by decide)(hns:(e::es).all noStar=true:=by rfl):XE X (.Call (.Name x p) (e::es) [] pos) (fL g f):=⟨TG.Hm hc hg hm hv ha.h hn hdb hns⟩
end
section
variable[bc]{X:Cx}{x:Str}{p pos:Pos}{e:Qv}{es:List Qv}{id T:String}{g:List D->Option D}{f:aw->R (List D)}
theorem iz{f:FX}{xT:Str}{p2:Pos}(ok:wz X.K T)(hg:Gl X "isinstance")(hm:X.mg "isinstance"=none)(hgT:Gl X xT)(hmT:X.mg xT=none)(hvT:Qq xT=some (.type T))(he:XE X e f)(hn2:xT≠"__name__":=by decide)(hd2:(xT==("__debug__":Str))=false:=by decide)(hns:noStar e=true:=by rfl):XE X (.Call (.Name "isinstance" p) [e,.Name xT p2] [] pos) (p5 T f):=⟨TG.K5 ok hg hm hgT hmT hvT he.h hn2 hd2 hns⟩
end
section
variable[bc]{X:Cx}{a:Qv}{f:FX}{pos:Pos}
theorem dE(h:XE X a f)(he:∀whole,isTrue a X.env whole=(do let v<-whole;standAt a.pos;holding [v] (truthy v)):=by intro _;rfl):XT X a (fh f):=⟨TG.Iq h.h he⟩
end
section
variable[bc]{X:Cx}{tg:Qv}
theorem cn{e:Qv}{f:FX}(h:XE X e f):XI X tg e (bL f):=⟨TG.Lg h.h⟩
end
section
variable[bc]{X:Cx}{tg:Qv}
theorem gC{a:Qv}{f:aw->R (List D)}{p pos:Pos}(hg:Gl X "range")(hm:X.mg "range"=none)(ha:XA X [a] f)(hs:Qw [a] X.env=[(false,eval a X.env)]:=by rfl):XI X tg (.Call (.Name "range" p) [a] [] pos) (fW f):=⟨TG.Hq hg hm ha.h hs⟩
end
section
variable[bc]{X:Cx}{tg:Qv}
theorem xX{a b:Qv}{f:aw->R (List D)}{p pos:Pos}(hg:Gl X "range")(hm:X.mg "range"=none)(ha:XA X [a,b] f)(hs:Qw [a,b] X.env=[(false,eval a X.env),(false,eval b X.env)]:=by rfl)(hs2:Qw [b] X.env=[(false,eval b X.env)]:=by rfl):XI X tg (.Call (.Name "range" p) [a,b] [] pos) (qi f):=⟨TG.Hr hg hm ha.h hs hs2⟩
end
section
variable[bc]{X:Cx}{pos:Pos}
theorem aP{i:Nat}{x:Str}(hN:X.N.Nodup)(hi:X.N[i]?=some x)(hx:Loc X.env.scope x)(hf:X.fn x=true\/X.env.scope.names.lookup x=some .local:=by first|exact .inl rfl|exact .inr rfl|assumption):XG X (.Name x pos) (gN i):=⟨TG.Jk hN hi hx hf⟩
end
section
variable[bc]{X:Cx}{pos:Pos}
theorem iQ:JG X [] CW:=⟨TG.JI ⟩
end
section
variable[bc]{X:Cx}{pos:Pos}
theorem cI{e:Qv}{es:List Qv}{g:GF}{h:Be}(h1:XG X e g)(h2:JG X es h)(hs:(assignEach (e::es) X.env).map (·.2)=assign e X.env::(assignEach es X.env).map (·.2):=by rfl):JG X (e::es) (yK g h):=⟨TG.Im h1.h h2.h hs⟩
end
section
variable[bc]{X:Cx}{pos:Pos}
theorem kD{es:List Qv}{k:Nat}{g:Be}{n:Nat}(hc:X.calm=true)(h:JG X es g)(hn:(assignEach es X.env).length=n:=by rfl)(hst:(assignEach es X.env).findIdx? (·.1)=none:=by rfl):XG X (.Tuple es k pos) (gT n g):=⟨TG.KN hc h.h hn hst⟩
end
section
variable[bc]
theorem dg{X:Cx}:Ka X [] dZ:=⟨TG.JK ⟩
end
section
variable[bc]
theorem ic{X:Cx}{c:Qv}{F:aw->R Bool}(h:XT X c F):Ka X [c] F:=⟨TG.Jx h.h⟩
end
section
variable[bc]{X:Cx}{elt tg iter:Qv}{ifs:List Qv}{scope:Qt}{pos:Pos}{N:List Str}{ix:List (Option Nat)}{G:aw->R (List D)}{g:GF}{C:aw->R Bool}{Fe:FX}
theorem fm(hc:X.calm=true)(ok:iy X scope N ix)(tk:p6 ix g)(hi:XI X tg iter G)(hb:CH X scope N tg elt ifs g C Fe)(hs:∀x,QG iter X.env x=pure x:=by intro _;rfl):XE X (.ListComp elt [⟨tg,iter,ifs,0⟩] scope pos) (iW ix G g C Fe):=⟨TG.Lz hc ok tk hi.h hb.h hs⟩
end
section
variable[bc]{X:Cx}{st:Qx}{rest body:List Qx}{pos:Pos}
theorem aV:xN X [] cz:=⟨TG.Jn ⟩
end
section
variable[bc]{X:Cx}{st:Qx}{rest body:List Qx}{pos:Pos}
theorem ao{F1 F2:cx}(h1:XS X st F1)(h2:xN X rest F2):xN X (st::rest) (aH F1 F2):=⟨TG.HC h1.h h2.h⟩
end
section
variable[bc]{X:Cx}{st:Qx}{rest body:List Qx}{pos:Pos}
theorem az{F1:cx}(h1:XS X st F1):xN X [st] F1:=⟨TG.JE h1.h⟩
end
section
variable[bc]{X:Cx}{st:Qx}{rest body:List Qx}{pos:Pos}
theorem aW{e:Qv}{f:FX}(h:XE X e f):XS X (.Return (some e) pos) (bR f):=⟨TG.Lh h.h⟩
end
section
variable[bc]{X:Cx}{st:Qx}{rest body:List Qx}{pos:Pos}
theorem ca{c:Qv}{a b:List Qx}{tc:aw->R Bool}{A B:cx}(hc:XT X c tc)(ha:xN X a A)(hb:xN X b B):XS X (.If c a b pos) (jt tc A B):=⟨TG.LN hc.h ha.h hb.h⟩
end
section
variable[bc]{X:Cx}{st:Qx}{rest body:List Qx}{pos:Pos}
theorem aC{i:Nat}{x:Str}{e:Qv}{f:FX}{pos':Pos}(hN:X.N.Nodup)(hi:X.N[i]?=some x)(hx:Loc X.env.scope x)(he:XE X e f)(hs:swapsWith e (some (.Name x pos')) pos.line X.env=pure false:=by rfl)(hf:X.fn x=true\/X.env.scope.names.lookup x=some .local:=by first|exact .inl rfl|exact .inr rfl|assumption):XS X (.Assign [.Name x pos'] e pos) (bB i f):=⟨TG.Kk hN hi hx he.h hs hf⟩
end
section
variable[bc]{X:Cx}{st:Qx}{rest body:List Qx}{pos:Pos}
theorem qB{elt tg iter:Qv}{ifs:List Qv}{scope:Qt}{N:List Str}{ix:List (Option Nat)}{G:aw->R (List D)}{g:GF}{C:aw->R Bool}{Fe:FX}{i:Nat}{y:Str}{lpos py spos:Pos}(hN:X.N.Nodup)(hi':X.N[i]?=some y)(hx:Loc X.env.scope y)(hc:X.calm=true)(ok:iy X scope N ix)(tk:p6 ix g)(hi:XI X tg iter G)(hb:CH X scope N tg elt ifs g C Fe)(hsw:swapsWith (.ListComp elt [⟨tg,iter,ifs,0⟩] scope lpos) (some (.Name y py)) spos.line X.env=pure true:=by rfl)(hs:∀x,QG iter X.env x=pure x:=by intro _;rfl)(hf:X.fn y=true\/X.env.scope.names.lookup y=some .local:=by first|exact .inl rfl|exact .inr rfl|assumption):XS X (.Assign [.Name y py] (.ListComp elt [⟨tg,iter,ifs,0⟩] scope lpos) spos) (bB i (iW ix G g C Fe)):=⟨TG.LU hN hi' hx hc ok tk hi.h hb.h hsw hs hf⟩
end
section
variable[bc]{X:Cx}{st:Qx}{rest body:List Qx}{pos:Pos}
theorem DF{tg e:Qv}{f:FX}{g:GF}(he:XE X e f)(hg:XG X tg g)(hs:swapsWithSole [tg] e pos.line X.env=pure false:=by rfl)(hw:swappedStores [tg] e X.env=pure none:=by rfl)(h1:(assignEach [tg] X.env).map (·.2)=[assign tg X.env]:=by rfl):XS X (.Assign [tg] e pos) (DS f g):=⟨TG.KU he.h hg.h hs hw h1⟩
end
section
variable[bc]{X:Cx}{st:Qx}{rest body:List Qx}{pos:Pos}
theorem cj{st:List Qx}{F:cx}(is:List Nat)(h:xN X st F):xN X st (dX is F):=⟨TG.Ie is h.h⟩
end
section
variable[bc]{X:Cx}{st:Qx}{rest body:List Qx}{pos:Pos}
theorem dY{tg iter:Qv}{G:aw->R (List D)}{g:GF}{B:cx}(hp:QF (model X.prog X.w) X.A X.env X.xe)(hc:X.calm=true)(hi:XI X tg iter G)(hg:XG X tg g)(hb:xN X body B)(hs:∀x,QG iter X.env x=pure x:=by intro _;rfl):XS X (.For tg iter body [] pos) (kC G g B):=⟨TG.KY hp hc hi.h hg.h hb.h hs⟩
end
section
variable[bc]{X:Cx}{pos:Pos}
theorem jb{es:List Qv}{g:aw->R (List D)}(h:XA X es g):XN X (.List es pos) (fJ g):=⟨TG.Lc h.h⟩
end
section
variable[bc]{X:Cx}{pos:Pos}
theorem oC:XN X (.Dict [] [] pos) tS:=⟨TG.IC ⟩
end
section
variable[bc]{X:Cx}{pos:Pos}
theorem eX{i:Nat}{x:Str}{e:Qv}{f:FX}{pos':Pos}(hN:X.N.Nodup)(hi:X.N[i]?=some x)(hx:Loc X.env.scope x)(he:XN X e f)(hs:swapsWith e (some (.Name x pos')) pos.line X.env=pure false:=by rfl)(hf:X.fn x=true\/X.env.scope.names.lookup x=some .local:=by first|exact .inl rfl|exact .inr rfl|assumption):XS X (.Assign [.Name x pos'] e pos) (kP i f):=⟨TG.Kf hN hi hx he.h hs hf⟩
end
section
variable[bc]
theorem Bb{X:Cx}{elt tg iter:Qv}{ifs:List Qv}{scope:Qt}{N:List Str}{ix:List (Option Nat)}{G:aw->R (List D)}{g:GF}{C:aw->R Bool}{Fe:FX}{i:Nat}{y:Str}{lpos py spos:Pos}(hN:X.N.Nodup)(hi':X.N[i]?=some y)(hx:Loc X.env.scope y)(hc:X.calm=true)(ok:iy X scope N ix)(tk:p6 ix g)(hi:XI X tg iter G)(hb:CH X scope N tg elt ifs g C Fe)(hsw:swapsWith (.ListComp elt [⟨tg,iter,ifs,0⟩] scope lpos) (some (.Name y py)) spos.line X.env=pure true:=by rfl)(hs:∀x,QG iter X.env x=pure x:=by intro _;rfl)(hf:X.fn y=true\/X.env.scope.names.lookup y=some .local:=by first|exact .inl rfl|exact .inr rfl|assumption):XS X (.Assign [.Name y py] (.ListComp elt [⟨tg,iter,ifs,0⟩] scope lpos) spos) (kP i (iW ix G g C Fe)):=⟨TG.IW hN hi' hx hc ok tk hi.h hb.h hsw hs hf⟩
end
section
variable[bc]
theorem Fy{X:Cx}{elt tg iter:Qv}{ifs:List Qv}{scope:Qt}{pos:Pos}{N:List Str}{ix:List (Option Nat)}{G:aw->R (List D)}{g:GF}{C:aw->R Bool}{Fe:FX}(hc:X.calm=true)(ok:iy X scope N ix)(tk:p6 ix g)(hi:XI X tg iter G)(hb:CH X scope N tg elt ifs g C Fe)(hs:∀x,QG iter X.env x=pure x:=by intro _;rfl):XN X (.ListComp elt [⟨tg,iter,ifs,0⟩] scope pos) (iW ix G g C Fe):=⟨TG.LO hc ok tk hi.h hb.h hs⟩
end
section
variable[bc]
theorem jl{X : Cx}{i : Nat}{x m : Str}{id : String}{r : V -> List V -> Hp -> VK -> Prop}{u : List D -> List D -> Option (List D)}{e : Qv}{es : List Qv}{f : aw -> R (List D)}{npos apos cpos pos : Pos}(slot : Slot "list" m id)(hty : typeOf (.builtin id) = pure (.type "method_descriptor"))(hm : K7 X id r)(ok : Bs X.K r u)(hx : XV X (.Name x npos) i)(he : XA X (e :: es) f)(hbase : Q8 (.Name x npos) m X.env (eval (.Name x npos) X.env) = eval (.Name x npos) X.env := by rfl)(hfew : ((backTo cpos (Qw (e :: es) X.env)).all (fun x => !x.1) && (backToKw cpos (QO [] X.env)).all (fun x => x.1.isSome)
      && decide ((e::es:List Qv).length+([]:List Q9).length+(if([]:List Q9).isEmpty then 0 else 1)<30))=true:=by rfl)(hline:(apos.endLine==cpos.line)=true:=by rfl)(hs:Qw (e::es) X.env=(false,eval e X.env)::Qw es X.env:=by rfl)(hplain:(backTo cpos (Qw es X.env)).any (·.1)=false:=by rfl)(hsw:swapsWith (.Call (.Attribute (.Name x npos) m apos) (e::es) [] cpos) none pos.line X.env=pure false:=by rfl):XS X (.Expr (.Call (.Attribute (.Name x npos) m apos) (e::es) [] cpos) pos) (xA i u f):=⟨TG.LJ slot hty hm ok hx.h he.h hbase hfew hline hs hplain hsw⟩
end
section
variable[bc]
theorem dM{X:Cx}{st:List Qx}{F:cx}(i:Nat)(h:xN X st F):xN X st (fZ i F):=⟨TG.JD i h.h⟩
end
section
variable[bc]
theorem wO{X:Cx}{e:Qv}{f:aw->R Bool}(is:List Nat)(h:XT X e f):XT X e (lI is f):=⟨TG.JF is h.h⟩
end
section
variable[bc]
theorem ax{X:Cx}{k k':Nat}{ps:List Str}{g:List D->R D}{h:aw->R (List D)}{x:Str}{p pos:Pos}{e:Qv}{es:List Qv}(C:Callee X.prog X.w X.K X.mg X.base k x ps g)(hn:Ar ps.length g)(hr:iB k' X.A)(hk:k<=k')(ha:XA X (e::es) h)(hg:Gl X x:=by rfl)(hdb:(x==("__debug__":Str))=false:=by decide)(hns:(e::es).all noStar=true:=by rfl):XE X (.Call (.Name x p) (e::es) [] pos) (fR g h):=⟨TG.Hs C hn hr hk ha.h hg hdb hns⟩
end
section
variable[bc]{X:Cx}{a b c:Qv}{fa fb fc:FX}{pos:Pos}
theorem zA(ha:XE X a fa):XE X (.UnaryOp .USub a pos) (BX fa):=⟨TG.K1 ha.h⟩
end
section
variable[bc]{X:Cx}
theorem vf{a b:Qv}{es:List Qv}{k:Nat}{tpos:Pos}{f:aw->R (List D)}{p pos:Pos}(hg:Gl X "zip")(hm:X.mg "zip"=none)(ha:XA X [a,b] f)(hs:Qw [a,b] X.env=(false,eval a X.env)::Qw [b] X.env:=by rfl)(hpl:(backTo pos (Qw [b] X.env)).any (·.1)=false:=by rfl):XI X (.Tuple es k tpos) (.Call (.Name "zip" p) [a,b] [] pos) (AO f):=⟨TG.JT hg hm ha.h hs hpl⟩
end
section
variable[bc]{X:Cx}
theorem m7{a:Qv}{es:List Qv}{k:Nat}{tpos:Pos}{f:aw->R (List D)}{p pos:Pos}(hg:Gl X "enumerate")(hm:X.mg "enumerate"=none)(ha:XA X [a] f)(hs:Qw [a] X.env=(false,eval a X.env)::Qw [] X.env:=by rfl)(hpl:(backTo pos (Qw [] X.env)).any (·.1)=false:=by rfl):XI X (.Tuple es k tpos) (.Call (.Name "enumerate" p) [a] [] pos) (gJ f):=⟨TG.Es hg hm ha.h hs hpl⟩
end
section
variable[bc]{X:Cx}{a o e:Qv}{es:List Qv}{fa fo:FX}{fas:aw->R (List D)}{f m x:Str}{cs:List Str}{pos apos p:Pos}{k k':Nat}{ps:List Str}
theorem jG{tbl : List (Str × (List D -> R D))}{pl : Sem Bool}(tb : nh X.prog X.w X.K X.mg X.base k m ps tbl)(hr : iB k' X.A)(hk : k <= k')(ho : XE X o fo)(ha : XA X (e :: es) fas)(hns : (e :: es).all noStar = true := by rfl)(ht : eval (.Call (.Attribute o m apos) (e :: es) [] pos) X.env = (do
      let ov<-eval o X.env
      standAt apos.atName
      let (f,first)<-holding [ov] (getMethod ov m pl)
      QN pos f first (backTo pos (Qw (e::es) X.env)) (backToKw pos (QO [] X.env))):=by rfl):XE X (.Call (.Attribute o m apos) (e::es) [] pos) (ga m tbl fo fas):=⟨TG.Jt tb hr hk ho.h ha.h hns ht⟩
end
section
variable[bc]{X:Cx}{C:Qj}{pins:List (Qj×Obj)}{σ:St}{H:Hp}{s:Qs}{Q:VK}
theorem CY{c:Str}{p pos:Pos}(NA:yV X.K X.mg c)(hg:Gl X c)(hdb:(c==("__debug__":Str))=false:=by decide):XE X (.Call (.Name c p) [] [] pos) (fC (.obj c [] [])):=⟨TG.Jz NA hg hdb⟩
end
section
variable[bc]
theorem Cj{X:Cx}{i:Nat}{x:Str}{idx value:Qv}{fk fv:FX}{npos tpos pos:Pos}(hu:X.A.units+64<QQ)(hx:XV X (.Name x npos) i)(hi:XE X idx fk)(hv:XE X value fv)(hs:swapsWith value (some (.Subscript (.Name x npos) idx tpos)) pos.line X.env=pure false:=by rfl):XS X (.Assign [.Subscript (.Name x npos) idx tpos] value pos) (tU i fk fv):=⟨TG.JH hu hx.h hi.h hv.h hs⟩
end
section
variable[bc]{X:Cx}{pins:List (Qj×Obj)}{s:Qs}{σ:L2.St}{H:Hp}{O:List Qj}
theorem AA{f:FX}{j:Nat}{k:Nat}{c P cc:Qj}{e:Qv}{p lpos kp pos np mp p2 spos:Pos}{row many:Str}{params:QU}{scope:Qt}(hr:iB k X.A)(hg:Gl X "sorted")(hm:X.mg "sorted"=none)(B:Aw X.mg X.base c P)(hcode:X.env.code=.ref c)(hT:∀H,bc.tab H->H P=some (.ext (ow P lpos (X.env.qual++"<lambda>"))))(he:XE X e f)(hN:X.N[j]?=some many)(hkm:X.env.kindOf many=some .cell)(hv:Gi X.env.scope many)(hcc:X.env.cells.lookup many=some cc)(hcl:closureFor scope X.env=pure [(many,cc)])(hdef:defaultsOf params X.env=([],[]))(hbind:∀cdv ctv v,bindArgs (Pw "<lambda>" (X.env.qual++"<lambda>") params (cutE row many np mp p2 spos) scope [(many,cc)] ((X.mg "__name__").getD .none) cdv ctv) ⟨[v],[]⟩=pure [(row,v)])(hco:scope.isCoroutine=false)(hgen:scope.isGenerator=false)(hk:scope.kind=.function)(hno:∀x∈scope.names,x.2≠.cell)(hlr:scope.names.lookup row=some .local)(hlm:scope.names.lookup many=some .free)(d1:(row==("__debug__":Str))=false)(d2:(many==("__debug__":Str))=false)(d3:(many==("__classdict__":Str))=false)(hns:noStar e=true:=by rfl):XE X (.Call (.Name "sorted" p) [e] [⟨some "key",.Lambda params (cutE row many np mp p2 spos) scope lpos,kp⟩] pos) (f2 oR f (ah j)):=⟨TG.Ih hr hg hm B hcode hT he.h hN hkm hv hcc hcl hdef hbind hco hgen hk hno hlr hlm d1 d2 d3 hns⟩
end
section
variable[bc]
theorem rW{X:Cx}{i:Nat}{x:Str}{idx value:Qv}{fk fv:FX}{npos tpos pos:Pos}(hu:X.A.units+64<QQ)(hx:XV X (.Name x npos) i)(hi:XE X idx fk)(hv:XE X value fv)(hs:swapsWith value (some (.Subscript (.Name x npos) idx tpos)) pos.line X.env=pure false:=by rfl):XS X (.Assign [.Subscript (.Name x npos) idx tpos] value pos) (mY i fk fv):=⟨TG.Jj hu hx.h hi.h hv.h hs⟩
end
section
variable[bc]
theorem zQ{X:Cx}{st:List Qx}{F:cx}(i:Nat)(h:xN X st F):xN X st (we i F):=⟨TG.Ja i h.h⟩
end
section
variable[bc]{X:Cx}
theorem yO{o e:Qv}{fo fk:FX}{pos:Pos}(hu:X.A.units+64<QQ)(ho:XE X o fo)(hi:XE X e fk)(hs:DR e):XE X (.Subscript o e pos) (f2 q5 fo fk):=⟨TG.K2 hu ho.h hi.h hs⟩
end
section
variable[bc]{X:Cx}
theorem AF{i:Nat}{x:Str}{l1 l2 l3 pos pos':Pos}(hN:X.N.Nodup)(hi:X.N[i]?=some x)(hx:Loc X.env.scope x)(hs:swapsWith (.List [.List [] l1,.List [] l2] l3) (some (.Name x pos')) pos.line X.env=pure false:=by rfl)(hf:X.fn x=true\/X.env.scope.names.lookup x=some .local:=by first|exact .inl rfl|exact .inr rfl|assumption):XS X (.Assign [.Name x pos'] (.List [.List [] l1,.List [] l2] l3) pos) (pL i):=⟨TG.Ij hN hi hx hs hf⟩
end
section
variable[bc]{X:Cx}
theorem vL{i c:Nat}{ci:Int}{x:Str}{ve:Qv}{fv:FX}{j:Nat}{npos jpos spos ap cp pos:Pos}(hx:XV X (.Name x npos) i)(hve:XE X ve fv)(hci:ci=(c:Int):=by rfl)(hpl:nT (.Constant (.int ci) j jpos):=by intro _ _;rfl)(hn2:noStar ve=true:=by rfl)(hb2:Q8 (.Subscript (.Name x npos) (.Constant (.int ci) j jpos) spos) "append" X.env (eval (.Subscript (.Name x npos) (.Constant (.int ci) j jpos) spos) X.env)=eval (.Subscript (.Name x npos) (.Constant (.int ci) j jpos) spos) X.env:=by rfl)(hf2:((backTo cp (Qw [ve] X.env)).all (λx=>!x.1)&&(backToKw cp (QO [] X.env)).all (λx=>x.1.isSome)&&decide (([ve]:List Qv).length+([]:List Q9).length+(if([]:List Q9).isEmpty then 0 else 1)<30))=true:=by rfl)(hl2:(ap.endLine==cp.line)=true:=by rfl)(hp2:(backTo cp (Qw [] X.env)).any (·.1)=false:=by rfl)(hsw:swapsWith (.Call (.Attribute (.Subscript (.Name x npos) (.Constant (.int ci) j jpos) spos) "append" ap) [ve] [] cp) none pos.line X.env=pure false:=by rfl):XS X (.Expr (.Call (.Attribute (.Subscript (.Name x npos) (.Constant (.int ci) j jpos) spos) "append" ap) [ve] [] cp) pos) (pN i c fv):=⟨TG.JC hx.h hve.h hci hpl hn2 hb2 hf2 hl2 hp2 hsw⟩
end
abbrev Lk(K:OZ)(f:Qj)(nm qual:Str)(st:Qx)(oc:Qg)(od:Option Qj)(kV dc pm:Qg)(an:Option Qj)(cd ct:Qg)(sl:Array (Option Qg)):Prop:=K.lookup f=some ⟨oc,od,.func (Pk nm qual (mz st) (fT st) (aA st) .none kV dc pm an cd ct),sl⟩
structure cV(P:Qi)(w:Qh)(K:OZ)(mg:Str->Option Qg)(base:Ql)(k:Nat)(N:List Str)(qual:Str)(st:Qx)(f:Qj)(B:cx):Prop where
 h:∀(cdv:Qg)(A:Qr)(outer:List Env)(s:Qs)(H:Hp)(E:XK),iB k (A.deeper (PY qual (aA st) s.heap.objs.size f cdv))->QF (model P w) (A.deeper (PY qual (aA st) s.heap.objs.size f cdv)) (PY qual (aA st) s.heap.objs.size f cdv) (kz (nF P w) P w K mg base N qual (aA st) f cdv A outer s H E).xe->
  xN (kz (nF P w) P w K mg base N qual (aA st) f cdv A outer s H E) (fT st) B
structure B7(P:Qi)(w:Qh)(K:OZ)(mg:Str->Option Qg)(base:Ql)(k:Nat)(N:List Str)(qual:Str)(st:Qx)(f:Qj)(B:cx):Prop where
 h:∀(cdv:Qg)(A:Qr)(outer:List Env)(s:Qs)(H:Hp)(E:XK),ut K f cdv->iB k (A.deeper (PY qual (aA st) s.heap.objs.size f cdv))->QF (model P w) (A.deeper (PY qual (aA st) s.heap.objs.size f cdv)) (PY qual (aA st) s.heap.objs.size f cdv) (kz (nF P w) P w K mg base N qual (aA st) f cdv A outer s H E).xe->
  xN (kz (nF P w) P w K mg base N qual (aA st) f cdv A outer s H E) (fT st) B
theorem B7.ok{P:Qi}{w:Qh}{K:OZ}{mg:Str->Option Qg}{base:Ql}{k:Nat}{N:List Str}{qual:Str}{st:Qx}{f:Qj}{B:cx}(h:B7 P w K mg base k N qual st f B):uP P w K mg base k N qual st f B:=⟨λcdv A outer s H E hc hr hp=>(h.h cdv A outer s H E hc hr hp).h⟩
theorem cV.ok{P:Qi}{w:Qh}{K:OZ}{mg:Str->Option Qg}{base:Ql}{k:Nat}{N:List Str}{qual:Str}{st:Qx}{f:Qj}{B:cx}(h:cV P w K mg base k N qual st f B):BodyOk P w K mg base k N qual st f B:=⟨λcdv A outer s H E hr hp=>(h.h cdv A outer s H E hr hp).h⟩
end TX
namespace TG
open L2
instance(priority:=low) noTabs:bc:=⟨λ_=>True,λ_ _=>trivial,λ_ _ _=>trivial⟩
open PySem PySem.Spec L2
theorem nr{α:Sort _}{a b:α}(h:a=b):a=b:=h
theorem d9{α β:Type}(a:α)(f:α->R β):Except.bind (Except.ok a:R α) f=f a:=nr rfl
theorem tH{α β:Type}(x:Option Ex)(f:α->R β):Except.bind (Except.error x:R α) f=.error x:=nr rfl
theorem se{α:Type}(a:α)(k:Ks)(ρ:aw)(f:α->R D):si (.ok a) k ρ f=f a:=nr rfl
theorem ub{α:Type}(x:Ex)(k:Ks)(ρ:aw)(f:α->R D):si (.error (some x)) k ρ f=k.ex x ρ:=nr rfl
theorem kH{α:Type}(a:α):Ci (.ok a:R α)=.ok a:=nr rfl
theorem fP{α:Type}(a:α):rO (some a)=.ok a:=nr rfl
theorem ge_0(d:D)(ρ:aw):qM (some (.val d)::ρ) 0=.ok d:=nr rfl
theorem zW(x:Option S)(ρ:aw)(i:Nat):qM (x::ρ) (i+1)=qM ρ i:=by
 unfold qM;rw[NS]
theorem pf(i:Nat)(ρ:aw):ah i ρ=qM ρ i:=nr rfl
theorem AU(d:D)(ρ:aw):fC d ρ=.ok d:=nr rfl
theorem ox(ρ:aw):av ρ=.ok []:=nr rfl
theorem mK(f:FX)(g:aw->R (List D))(ρ:aw):af f g ρ=(f ρ).bind λx=>(g ρ).bind λxs=>.ok (x::xs):=nr rfl
theorem oD(g:aw->R (List D))(ρ:aw):bT g ρ=(g ρ).bind λxs=>rO (wo xs):=nr rfl
theorem oX(g:aw->R (List D))(ρ:aw):fJ g ρ=(g ρ).bind λxs=>rO (kI xs):=nr rfl
theorem Ag(g:D->Option D)(f:FX)(ρ:aw):f1 g f ρ=(f ρ).bind λa=>rO (g a):=nr rfl
theorem AI(g:D->D->Option D)(f h:FX)(ρ:aw):f2 g f h ρ=(f ρ).bind λa=>(h ρ).bind λb=>rO (g a b):=nr rfl
theorem Au(f:FX)(ρ:aw):fB f ρ=(f ρ).bind λd=>rO (Kx d):=nr rfl
theorem zV(g:List D->Option D)(f:aw->R (List D))(ρ:aw):fL g f ρ=(f ρ).bind λds=>rO (g ds):=nr rfl
theorem AB(g:List D->R D)(f:aw->R (List D))(ρ:aw):fR g f ρ=(f ρ).bind g:=nr rfl
theorem pc(f:aw->R Bool)(ρ:aw):vx f ρ=(f ρ).bind λb=>.ok (!b):=nr rfl
theorem oA(f g:aw->R Bool)(ρ:aw):vw f g ρ=(f ρ).bind λb=>if b then g ρ else .ok false:=nr rfl
theorem ur(f g:aw->R Bool)(ρ:aw):BG f g ρ=(f ρ).bind λb=>if b then .ok true else g ρ:=nr rfl
theorem jQ(f:FX)(ρ:aw):fh f ρ=(f ρ).bind λd=>rO (truth d):=nr rfl
theorem mr(f g:FX)(ρ:aw):rS f g ρ=(f ρ).bind λd=>yc d (g ρ):=nr rfl
theorem pH(f g:FX)(ρ:aw):KP f g ρ=(f ρ).bind λd=>Jb d (g ρ):=nr rfl
theorem mw(f:FX)(ρ:aw):HL f ρ=(f ρ).bind λa=>rO (wL a):=nr rfl
theorem uw(t:aw->R Bool)(f g:FX)(ρ:aw):Mk t f g ρ=(t ρ).bind λc=>if c then f ρ else g ρ:=nr rfl
theorem oN(T:String)(f:FX)(ρ:aw):p5 T f ρ=(f ρ).bind λa=>rO (n8 T a):=nr rfl
theorem o5(f:FX)(ρ:aw):Kv f ρ=(f ρ).bind λa=>.ok (.bl (isNon a)):=nr rfl
theorem mi(f:FX)(ρ:aw):IV f ρ=(f ρ).bind λa=>.ok (.bl (!isNon a)):=nr rfl
theorem oB(f:FX)(ρ:aw):BX f ρ=(f ρ).bind λa=>rO (GB a):=nr rfl
theorem jJ(f:FX)(ρ:aw):Fu f ρ=(f ρ).bind λa=>rO (C6 a):=nr rfl
theorem pj(f:FX)(ρ:aw):Ke f ρ=(f ρ).bind λa=>rO (Hi a):=nr rfl
theorem jR(g g':D->D->Option D)(fa fb fc:FX)(ρ:aw):FP g g' fa fb fc ρ=(fa ρ).bind λx=>(fb ρ).bind λy=>(rO (g x y)).bind λz=>yc z ((fc ρ).bind λw=>rO (g' y w)):=nr rfl
theorem jC(f:FX)(ρ:aw):bL f ρ=(f ρ).bind λd=>rO (sg d):=nr rfl
theorem iG(f:aw->R (List D))(ρ:aw):fW f ρ=(f ρ).bind λds=>rO (ky ds):=nr rfl
theorem iH(f:aw->R (List D))(ρ:aw):qi f ρ=(f ρ).bind λds=>rO (qv ds):=nr rfl
theorem pp(f:aw->R (List D))(ρ:aw):AO f ρ=(f ρ).bind λds=>rO (xI ds):=nr rfl
theorem lY(f:aw->R (List D))(ρ:aw):gJ f ρ=(f ρ).bind λds=>rO (ux ds):=nr rfl
theorem oM(z:Str):Mi (.str z)=some z:=nr rfl
theorem iJ(ρ:aw):aY ρ=.ok none:=nr rfl
theorem mI(f:FX)(ρ:aw):bV f ρ=(f ρ).bind λd=>rO (xJ d):=nr rfl
theorem jI(f:FX)(l h:aw->R (Option Int))(ρ:aw):bw f l h ρ=(f ρ).bind λa=>(l ρ).bind λlo=>(h ρ).bind λhi=>rO (rF a lo hi):=nr rfl
theorem lU(ρ:aw):dZ ρ=.ok true:=nr rfl
theorem my(k:Ks)(ρ:aw):cz k ρ=k.nx ρ:=nr rfl
theorem iD(A B:cx)(k:Ks)(ρ:aw):aH A B k ρ=A {k with nx:=B k} ρ:=nr rfl
theorem mR(f:FX)(k:Ks)(ρ:aw):bR f k ρ=si (f ρ) k ρ .ok:=nr rfl
theorem jw(k:Ks)(ρ:aw):Ig k ρ=.ok .non:=nr rfl
theorem ny(c:aw->R Bool)(A B:cx)(k:Ks)(ρ:aw):jt c A B k ρ=si (c ρ) k ρ λb=>if b then A k ρ else B k ρ:=nr rfl
theorem mC(i:Nat)(f:FX)(k:Ks)(ρ:aw):bB i f k ρ=si (f ρ) k ρ λd=>k.nx (setV i d ρ):=nr rfl
theorem jH(is:List Nat)(F:cx)(k:Ks)(ρ:aw):dX is F k ρ=F k (kill is ρ):=nr rfl
theorem ja(G:aw->R (List D))(g:GF)(B:cx)(k:Ks)(ρ:aw):kC G g B k ρ=si (G ρ) k ρ λds=>jq g B k ds ρ:=nr rfl
theorem Ab(d:D)(x:Option S)(ρ:aw):setV 0 d (x::ρ)=some (.val d)::ρ:=nr rfl
theorem Am(i:Nat)(d:D)(x:Option S)(ρ:aw):setV (i+1) d (x::ρ)=x::setV i d ρ:=nr rfl
theorem oY(ρ:aw):kill [] ρ=ρ:=nr rfl
theorem lV(i:Nat)(is:List Nat)(ρ:aw):kill (i::is) ρ=kill is (ρ.set i none):=nr rfl
theorem pI(B:cx)(n:Nat)(a:D):bi B 1 n [a]=B K0 (env0 n [a]):=nr rfl
theorem gq(B:cx)(n:Nat)(a b:D):bi B 2 n [a,b]=B K0 (env0 n [a,b]):=nr rfl
theorem oK(B:cx)(n:Nat)(a b c:D):bi B 3 n [a,b,c]=B K0 (env0 n [a,b,c]):=nr rfl
theorem vd(B:cx)(n:Nat)(a b c d:D):bi B 4 n [a,b,c,d]=B K0 (env0 n [a,b,c,d]):=nr rfl
theorem Hh(B:cx)(n:Nat)(a b c d e:D):bi B 5 n [a,b,c,d,e]=B K0 (env0 n [a,b,c,d,e]):=nr rfl
theorem oW(ρ:aw):inB [] ρ=[]:=nr rfl
theorem mj(ix:List (Option Nat))(ρ:aw):inB (none::ix) ρ=none::inB ix ρ:=nr rfl
def pick(ρ:aw)(i:Nat):Option S:=match ρ[i]? with
 |some (some (.val d))=>some (.val d)
 |_=>none
theorem mH(i:Nat)(ix:List (Option Nat))(ρ:aw):inB (some i::ix) ρ=pick ρ i::inB ix ρ:=nr rfl
theorem Aq(d:D)(ρ:aw):pick (some (.val d)::ρ) 0=some (.val d):=rfl
theorem A2(x:Option S)(ρ:aw)(i:Nat):pick (x::ρ) (i+1)=pick ρ i:=by
 unfold pick;rw[NS]
theorem lX(i:Nat)(f:FX)(k:Ks)(ρ:aw):kP i f k ρ=si (f ρ) k ρ λd=>k.nx (ρ.set i (some (.own d))):=nr rfl
theorem mq(i:Nat)(F:cx)(k:Ks)(ρ:aw):fZ i F k ρ=F k (frz i ρ):=nr rfl
theorem A3(d:D)(ρ:aw):frz 0 (some (.own d)::ρ)=some (.val d)::ρ:=nr rfl
theorem uq(d:D)(ρ:aw):frz 0 (some (.val d)::ρ)=some (.val d)::ρ:=nr rfl
theorem zK(i:Nat)(x:Option S)(ρ:aw):frz (i+1) (x::ρ)=x::frz i ρ:=by
 unfold frz;rw[NS];split<;>rename_i h
 ·rw[h];rfl
 ·rfl
theorem jm(i:Nat)(u:List D->List D->Option (List D))(f:aw->R (List D))(k:Ks)(ρ:aw){xs:List D}(h:ρ[i]?=some (some (.own (.lst xs)))):xA i u f k ρ=si (f ρ) k ρ λds=>(rO (u xs ds)).bind λys=>k.nx (ρ.set i (some (.own (.lst ys)))):=by
 unfold xA;rw[h]
theorem jk{xs:List D}{y:D}(h:xs.length<100000):eQ xs [y]=some (xs++[y]):=by
 show(if small (xs.length+1)then some (xs++[y])else none)=_;rw[dJ ‹0›];rfl
theorem oH(i j:Int):bK (.int i) (.int j)=some (.int (i+j)):=nr rfl
theorem oz(i j:Int):TG.AK (.int i) (.int j)=some (.int (i-j)):=nr rfl
theorem tG(i j:Int):L3 (.int i) (.int j)=some (.bl (decide (i<j))):=nr rfl
theorem oZ(i j:Int):qH (.int i) (.int j)=some (.bl (decide (i<j))):=nr rfl
theorem pJ(x y:Str):qH (.str x) (.str y)=some (.bl (decide (x.cps.toList<y.cps.toList))):=nr rfl
theorem oG(c d:Bool):Lq (.bl c) (.bl d)=some (.bl (c==d)):=nr rfl
theorem iK(c d:Bool):Ee (.bl c) (.bl d)=some (.bl (!(c==d))):=nr rfl
theorem t7(i j:Int):L5 (.int i) (.int j)=some (.bl (decide (i<=j))):=nr rfl
theorem tZ(i j:Int):KZ (.int i) (.int j)=some (.bl (decide (j<i))):=nr rfl
theorem uy(i j:Int):L1 (.int i) (.int j)=some (.bl (decide (j<=i))):=nr rfl
theorem pG(i:Int):GB (.int i)=some (.int (-i)):=nr rfl
theorem eS{i j:Int}(h:0<j):cq (.int i) (.int j)=some (.int (i%j)):=by
 show(if decide (0<j)then some (D.int (i%j))else none)=_;rw[decide_eq_true h];rfl
theorem kX{i j:Int}(h:0<j)(h':j<10^200):cW (.int i) (.int j)=some (.int (i/j)):=by
 show(if decide (0<j/\j<10^200)then some (D.int (i/j))else none)=_;rw[decide_eq_true ⟨h,h'⟩];rfl
theorem qw{i j:Int}(h:-(2^64)<i)(h':i<2^64):nQ (.int i) (.int j)=some (.int (i*j)):=by
 show(if decide ((-(2^64)<i/\i<2^64)\/(-(2^64)<j/\j<2^64))then some (D.int (i*j))else none)=_;rw[decide_eq_true (.inl ⟨h,h'⟩)];rfl
theorem qm{i j:Int}(h:-(2^64)<j)(h':j<2^64):nQ (.int i) (.int j)=some (.int (i*j)):=by
 show(if decide ((-(2^64)<i/\i<2^64)\/(-(2^64)<j/\j<2^64))then some (D.int (i*j))else none)=_;rw[decide_eq_true (.inr ⟨h,h'⟩)];rfl
theorem uT(i:Int)(n:Nat)(h:n<=1000000)(h':i.natAbs<2^64):jU (.int i) (.int n)=some (.int (i^n)):=by
 show(if decide (0<=(n:Int)/\(n:Int)<=1000000/\i.natAbs<2^64)then some (D.int (i^(n:Int).toNat))else none)=_;rw[decide_eq_true ⟨by omega,by omega,h'⟩];rfl
theorem Bv:jU (.int 10) (.int 59)=some (.int (10^59)):=uT 10 59 (by decide) (by decide)
def zX:Int:=10^59
def L8:Int:=10^60
theorem EQ:1000000<zX/\zX*10=L8:=by decide +kernel
theorem xR:jU (.int 10) (.int 59)=some (.int zX):=Bv
theorem jA(i j:Int):kJ (.int i) (.int j)=some (.bl (i==j)):=by unfold kJ pyEq;rfl
theorem jv(i j:Str):kJ (.str i) (.str j)=some (.bl (i==j)):=by unfold kJ pyEq;rfl
theorem jE(i j:Bool):kJ (.bl i) (.bl j)=some (.bl (i==j)):=by unfold kJ pyEq;rfl
theorem jO(i j:Int):BC (.int i) (.int j)=some (.bl (!(i==j))):=by unfold BC pyEq;rfl
theorem jB(i j:Str):BC (.str i) (.str j)=some (.bl (!(i==j))):=by unfold BC pyEq;rfl
theorem jS(i j:Bool):BC (.bl i) (.bl j)=some (.bl (!(i==j))):=by unfold BC pyEq;rfl
theorem FJ{α:Type}(xs:List α)(n:Nat):nI xs (n:Int)=xs[n]?:=by
 unfold nI Et;rw[if_pos ‹0›];by_cases h:n<xs.length
 ·rw[if_pos ‹0›];rfl
 ·rw[if_neg ‹0›,Og ‹0›];rfl
theorem Ak{α:Type}(a:α)(xs:List α):nI (a::xs) 0=some a:=FJ (a::xs) 0
theorem An{α:Type}(a:α)(xs:List α)(n:Nat):nI (a::xs) ((n+1:Nat):Int)=nI xs (n:Int):=by
 rw[FJ,FJ,NS]
theorem J6(xs:List D)(i:Int):aE (.tup xs) (.int i)=nI xs i:=nr rfl
theorem Hc(xs:List D)(i:Int):aE (.lst xs) (.int i)=nI xs i:=nr rfl
theorem rM(a:D)(xs:List D):aE (.tup (a::xs)) (.int 0)=some a:=Ak a xs
theorem tY(a b:D)(xs:List D):aE (.tup (a::b::xs)) (.int 1)=some b:=(An a _ 0).trans (Ak b xs)
theorem sP(a b c:D)(xs:List D):aE (.tup (a::b::c::xs)) (.int 2)=some c:=(An a _ 1).trans ((An b _ 0).trans (Ak c xs))
theorem sX(a:D)(xs:List D):aE (.lst (a::xs)) (.int 0)=some a:=Ak a xs
theorem tO(a b:D)(xs:List D):aE (.lst (a::b::xs)) (.int 1)=some b:=(An a _ 0).trans (Ak b xs)
theorem sM(a b c:D)(xs:List D):aE (.lst (a::b::c::xs)) (.int 2)=some c:=(An a _ 1).trans ((An b _ 0).trans (Ak c xs))
theorem jy(xs:List D):ig [.lst xs]=some (.int xs.length):=nr rfl
theorem jT(xs:List D):ig [.tup xs]=some (.int xs.length):=nr rfl
theorem gG(xs:List D):cA [.lst xs]=some (.tup xs):=nr rfl
theorem gD(xs:List D):cA [.tup xs]=some (.tup xs):=nr rfl
theorem pF(b:Bool):Kx (.bl b)=some b:=nr rfl
theorem iF(i:Int):xJ (.int i)=some (some i):=nr rfl
theorem gP(b:Bool):truth (.bl b)=some b:=nr rfl
theorem gf(xs:List D):truth (.tup xs)=some (!xs.isEmpty):=nr rfl
theorem gr(xs:List D):truth (.lst xs)=some (!xs.isEmpty):=nr rfl
theorem jZ(i j:Int):pQ [.int i,.int j]=some (.int (if j>i then j else i)):=nr rfl
theorem lw(i j:Int):sY [.int i,.int j]=some (.int (if j<i then j else i)):=nr rfl
theorem Cg(b:Bool):y8 [.bl b]=some (.int (if b then 1 else 0)):=nr rfl
theorem gx(xs:List D):sg (.lst xs)=some xs:=nr rfl
theorem gB(xs:List D):sg (.tup xs)=some xs:=nr rfl
theorem jF(k:R D):yc (.bl true) k=k:=nr rfl
theorem jx(k:R D):yc (.bl false) k=.ok (.bl false):=nr rfl
theorem lP(k:R D):Jb (.bl true) k=.ok (.bl true):=nr rfl
theorem lW(k:R D):Jb (.bl false) k=k:=nr rfl
theorem jP(a b:Bool):yc (.bl a) (.ok (.bl b))=.ok (.bl (a&&b)):=by cases a<;>rfl
theorem mN(a b:Bool):Jb (.bl a) (.ok (.bl b))=.ok (.bl (a||b)):=by cases a<;>rfl
theorem o3(b:Bool):wL (.bl b)=some (.bl (!b)):=nr rfl
theorem oV(xs:List D):Hi (.lst xs)=some (.lst xs.reverse):=nr rfl
theorem iI(n:Nat)(h:n<2^62):ky [.int n]=some (eR 0 n):=by
 show(if okR (n:Int)then some (eR 0 ((n:Int).toNat))else none)=_
 have:okR (n:Int)=true:=decide_eq_true ⟨by omega,by omega⟩
 rw[this];rfl
theorem Cd{xs:List D}(h:xs.length<=100000):kI xs=some (.lst xs):=by unfold kI;rw[dJ h];rfl
theorem zo{α:Type}(f:α->D)(h:∀a,pl (f a)=true):∀xs:List α,mB (xs.map f)=true
 |[]=>rfl
 |x::xs=>by
  show(pl (f x)&&mB (xs.map f))=true;rw[h,zo f h xs];rfl
theorem DH(f:Str->D)(hf:f=D.str)(w:Str)(ws:List Str):inD (.str w) (ws.map f)=ws.any λy=>y==w:=by
 subst hf;unfold inD;rw[Od];congr 1
theorem zk(w:Str)(ws:List Str):Df (.str w) (.tup (ws.map .str))=some (.bl (ws.contains w)):=by
 show(if(pl (.str w)&&mB (ws.map .str))&&eK 8 (.str w)then some (D.bl (inD (.str w) (ws.map .str)))else none)=_;rw[DH _ rfl,zo _ λ_=>rfl];show some (D.bl _)=_;congr 2
 induction ws with
 |nil=>rfl
 |cons x xs ih=>rw[M2,NX,ih,Bool.beq_comm]
theorem D7(w:Str)(ws:List Str):Df (.str w) (.lst (ws.map .str))=some (.bl (ws.contains w)):=zk w ws
theorem vE(xs ys:List D)(h:xs.length+ys.length<=100000):bK (.lst xs) (.lst ys)=some (.lst (xs++ys)):=by
 show(if small (xs.length+ys.length)then some (D.lst (xs++ys))else none)=_;rw[dJ h];rfl
theorem fQ(xs ys:List D)(h:xs.length+ys.length<=100000):bK (.tup xs) (.tup ys)=some (.tup (xs++ys)):=by
 show(if small (xs.length+ys.length)then some (D.tup (xs++ys))else none)=_;rw[dJ h];rfl
theorem mP(xs:List D)(lo hi:Option Int):rF (.lst xs) lo hi=some (.lst (cutD xs lo hi)):=nr rfl
theorem md(xs:List D)(lo hi:Option Int):rF (.tup xs) lo hi=some (.tup (cutD xs lo hi)):=nr rfl
theorem eY{ix:List (Option Nat)}{G:aw->R (List D)}{g:GF}{C:aw->R Bool}{Fe:FX}{ρ:aw}{ds r:List D}(h1:G ρ=.ok ds)(h2:ds.length<=100000)(h3:Av (inB ix ρ) g C Fe ds=.ok r):iW ix G g C Fe ρ=.ok (.lst r):=by
 unfold iW;rw[h1,d9,dJ h2,h3];rfl
theorem j7{α:Type}{ρ:aw}{g:GF}{C:aw->R Bool}{Fe:FX}(mk:α->D)(p:α->Bool)(v:α->D):∀xs:List α,(∀a∈xs,∃ρ1,g (mk a) ρ=some ρ1/\C ρ1=.ok (p a)/\Fe ρ1=.ok (v a))->
  Av ρ g C Fe (xs.map mk)=.ok ((xs.filter p).map v)
 |[],_=>rfl
 |a::xs,h=>by
  obtain⟨ρ1,h1,h2,h3⟩:=h a Mv;rw[M0,nX,h1,fP,d9,h2,kH,d9,h3,kH,d9,j7 mk p v xs λb hb=>h b (Mw _ hb)];cases e:p a with
  |true=>rw[if_pos rfl,N6 e];rfl
  |false=>rw[if_neg MG,N7 (by simp[e])]
theorem nW{α:Type}{ρ:aw}{g:GF}{C:aw->R Bool}{Fe:FX}(mk:α->D)(v:α->D)(xs:List α)(h:∀a∈xs,∃ρ1,g (mk a) ρ=some ρ1/\C ρ1=.ok true/\Fe ρ1=.ok (v a)):Av ρ g C Fe (xs.map mk)=.ok (xs.map v):=by
 rw[j7 mk (λ_=>true) v xs h,List.filter_eq_self.mpr λ_ _=>rfl]
theorem zr{g:GF}{B:cx}{k:Ks}(Iv:Nat->aw->Prop):∀(ds:List D)(i:Nat)(ρ:aw),(∀j d ρ (k':Ks),i<=j->ds[j-i]?=some d->Iv j ρ->∃ρ1 ρ2,g d ρ=some ρ1/\Iv (j+1) ρ2/\B k' ρ1=k'.nx ρ2)->Iv i ρ->∃ρ',Iv (i+ds.length) ρ'/\jq g B k ds ρ=k.nx ρ'
 |[],i,ρ,_,h=>⟨ρ,h,rfl⟩
 |d::ds,i,ρ,st,h=>by
  obtain⟨ρ1,ρ2,e1,h2,e2⟩:=st i d ρ ⟨jq g B k ds,k.nx,jq g B k ds,k.ex⟩ (MC _) (by rw[Ot];rfl) h;obtain⟨ρ',h3,e3⟩:=zr (g:=g) (B:=B) (k:=k) Iv ds (i+1) ρ2 (λj d' ρ k' hj hd=>st j d' ρ k' ‹0› (by rw[show j-i=(j-(i+1))+1 by omega,NS];exact hd)) h2;refine⟨ρ',?_,?_⟩
  ·rw[M6]
   have:i+(ds.length+1)=i+1+ds.length:=(by omega);rw[this];exact h3
  ·show((rO (g d ρ)).bind λρ1=>B ⟨jq g B k ds,k.nx,jq g B k ds,k.ex⟩ ρ1)=_;rw[e1,fP,d9,e2];exact e3
theorem eP{g:GF}{B:cx}{k:Ks}{ds:List D}{ρ:aw}{Q:R D->Prop}(Iv:Nat->aw->Prop)(st:∀i d ρ (k':Ks),ds[i]?=some d->Iv i ρ->∃ρ1 ρ2,g d ρ=some ρ1/\Iv (i+1) ρ2/\B k' ρ1=k'.nx ρ2)(h:Iv 0 ρ)(q:∀ρ',Iv ds.length ρ'->Q (k.nx ρ')):Q (jq g B k ds ρ):=by
 obtain⟨ρ',h1,e⟩:=zr (k:=k) Iv ds 0 ρ (λj d ρ k' _ hd=>st j d ρ k' hd) h;rw[e];rw[NW]at h1;exact q ρ' h1
theorem cT{α:Type}{xs:List α}{i:Nat}{a:α}(h:xs[i]?=some a):i<xs.length:=by
 rcases Of i xs.length with z|z
 ·exact z
 ·rw[Og z]at h;cases h
theorem uO{α β:Type}(f:α->β)(xs:List α)(i:Int):nI (xs.map f) i=(nI xs i).map f:=by
 unfold nI;rw[MS];cases Et xs.length i with
 |none=>rfl
 |some j=>simp
theorem rQ{α:Type}{xs:List α}{k:Nat}(h:k<xs.length):nI xs (k:Int)=some xs[k]:=by
 unfold nI Et;rw[if_pos ‹0›,if_pos ‹0›];simp[h]
theorem ot{α:Type}{xs:List α}{i:Int}(h0:0<=i)(h:i<xs.length):nI xs i=some (xs[i.toNat]'‹0›):=by
 have e:i=((i.toNat:Nat):Int):=by omega
 conv=>lhs;rw[e]
 exact rQ ‹0›
def EE:cx:=aH (jt (fB (f2 qH (ah 1) (fL ig (af (ah 0) (av))))) (bR (f2 aE (ah 0) (ah 1))) (cz)) (bR (fC (.int 0)))
theorem El(ns:List Int)(k:Nat):bi EE 2 2 [.lst (ns.map .int),.int k]=.ok (.int (ns.getD k 0)):=by
 show(if decide ((k:Int)<((ns.map D.int).length:Int))then si (rO (nI (ns.map D.int) (k:Int))) _ _ .ok else .ok (.int 0))=_;rw[MS];by_cases h:k<ns.length
 ·rw[if_pos (by simpa using h),uO,rQ h,Option.map_some,Oa,Nq h];rfl
 ·rw[if_neg (by simpa using h),Oa,Og ‹0›];rfl
theorem B2(ns:List Int)(i:Int)(h:0<=i):∃c:Int,bi EE 2 2 [.lst (ns.map .int),.int i]=.ok (.int c):=by
 have e:i=((i.toNat:Nat):Int):=by omega
 exact⟨ns.getD i.toNat 0,by rw[e];exact El ns i.toNat⟩
theorem zB(x y:Str):(x++y).length=x.length+y.length:=by
 show(x.cps++y.cps).size=_;rw[Array.size_append];rfl
theorem hU(x y:Str)(h:x.length<=1000)(h':y.length<=1000):bK (.str x) (.str y)=some (.str (x++y)):=by
 show(if small (x.length+y.length)then some (D.str (x++y))else none)=_;rw[dJ ‹0›];rfl
theorem qo(x:Str)(h:x.length<=1000)(i:Int)(h0:0<=i)(h1:i<x.length):∃y:Str,y.length=1/\aE (.str x) (.int i)=some (.str y):=by
 have hl:x.cps.toList.length=x.length:=by simp[Str.length]
 have hi:i<x.cps.toList.length:=by omega
 refine⟨⟨#[x.cps.toList[i.toNat]'‹0›]⟩,rfl,?_⟩;show(if small x.length then(nI x.cps.toList i).bind λc=>some (D.str ⟨#[c]⟩)else none)=_;rw[dJ ‹0›,if_pos rfl,ot h0 hi];rfl
theorem iL(lo:Int)(n:Nat):eR lo n=(List.range n).map λ(k:Nat)=>D.int (lo+(k:Int)):=nr rfl
theorem cu(lo:Int)(n:Nat):(eR lo n).length=n:=by unfold eR;rw[MS,NB]
theorem fG{α:Type}(xs:List α)(m:Nat):cutD xs none (some (m:Int))=xs.take m:=by
 unfold cutD;rw[HT.IT,HT.Jo,Nm,ND];rcases Oj m xs.length with h|h
 ·rw[Ol h]
 ·rw[Om h,Oh h,Oh (MC _)]
theorem qY{α:Type}(xs:List α)(m:Nat):cutD xs (some (m:Int)) none=xs.drop m:=by
 unfold cutD;rw[HT.IT,HT.Jo];rcases Oj m xs.length with h|h
 ·rw[Ol h];exact Oh (by rw[MU];exact MC _)
 ·rw[Om h,Ot,Nj,List.drop_eq_nil_of_le h]
theorem vz(ρ:aw):tS ρ=.ok (.dct [] []):=nr rfl
theorem rN(q:List Key):jp (.tup (q.map bF))=some q:=cy q
theorem Ey{i:Nat}{fk fv:FX}{k:Ks}{ρ:aw}{al:List (List Key×D)}{q:List Key}{v:D}(h:ρ[i]?=some (some (.own (eL al))))(ek:fk ρ=.ok (.tup (q.map bF)))(ev:fv ρ=.ok v)(hl:al.length<=100000):tU i fk fv k ρ=k.nx (ρ.set i (some (.own (eL (il al q v))))):=by
 have e:sW (encK al) (al.map (·.2)) (.tup (q.map bF)) v=some (il al q v):=by
  unfold sW;rw[ou];show(jp (.tup (q.map bF))).bind _=_;rw[rN];show(if small al.length then _ else _)=_;rw[dJ hl];rfl
 unfold tU;rw[h];show si ((fv ρ).bind λv=>(fk ρ).bind λq=>rO (sW (encK al) (al.map (·.2)) q v)) k ρ _=_;rw[ev,d9,ek,d9,e];rfl
local macro_rules
 |`(tactic| simp! only[$xs,*])=>`(tactic| simp only[d9,tH,se,ub,kH,fP,ge_0,zW,pf,AU,ox,mK,oD,oX,Ag,AI,Au,zV,AB,pc,oA,ur,jQ,mr,pH,mw,uw,oN,o5,mi,oB,jJ,pj,jR,jC,iG,iH,pp,lY,iJ,mI,jI,lU,my,iD,mR,jw,ny,mC,jH,ja,lX,mq,A3,uq,zK,Ab,Am,oY,lV,oW,mj,mH,Aq,A2,Ou,Ov,M0,MZ,Ni,Nx,K0,env0,List.replicate,Ow,MJ,NW,Nat.reduceAdd,Nat.reduceSub,M6,M7,oH,oz,tG,oZ,pJ,oG,iK,oM,t7,tZ,uy,pG,jA,jv,jE,jO,jB,jS,rM,tY,sP,sX,tO,sM,jy,jT,gG,gD,pF,iF,gP,gf,gr,jZ,lw,gx,gB,jF,jx,lP,lW,jP,mN,o3,oV,mP,md,gN,if_true,if_false,Ox,Oy,Ng,$xs,*])
theorem Hl(a b c:D):wo [a,b,c]=some (.tup [a,b,c]):=nr rfl
theorem qu(a b:D):wo [a,b]=some (.tup [a,b]):=nr rfl
theorem Ky:wo []=some (.tup []):=nr rfl
theorem EF:kI []=some (.lst []):=nr rfl
def vC(m:Nat)(rows:List (List D)):Prop:=rows.Pairwise λr s=>eT (r.take m) (s.take m)=some true
theorem CP{ρ:aw}{g:GF}{C:aw->R Bool}{Fe:FX}:∀(ds:List D)(P:Nat->D->Prop),(∀i d,ds[i]?=some d->∃ρ1 v,g d ρ=some ρ1/\C ρ1=.ok true/\Fe ρ1=.ok v/\P i v)->∃vs:List D,vs.length=ds.length/\(∀i v,vs[i]?=some v->P i v)/\Av ρ g C Fe ds=.ok vs
 |[],_,_=>⟨[],rfl,(λ_ _ h=>nomatch h),rfl⟩
 |d::ds,P,h=>by
  obtain⟨ρ1,w,h1,h2,h3,h4⟩:=h 0 d rfl;obtain⟨ws,e1,e2,e3⟩:=CP (ρ:=ρ) (g:=g) (C:=C) (Fe:=Fe) ds (λi v=>P (i+1) v) λi d' hd=>h (i+1) d' (by rw[NS];exact hd);refine⟨w::ws,by rw[M6,M6,e1],λi v hv=>?_,?_⟩
  ·cases i with
   |zero=>cases hv;exact h4
   |succ i=>rw[NS]at hv;exact e2 i v hv
  ·rw[nX,h1,fP,d9,h2,kH,d9,h3,kH,d9,e3];rfl
theorem uM:∀{σ:List Bool}{a b:List D},Sh σ a->Sh σ b->(iS a b=true↔a=b)
 |_,_,_,.nil,.nil=>by unfold iS;simp
 |_,_,_,.int i h,.int j h'=>by
  unfold iS pyEq;rw[MV,uM h h'];simp
 |_,_,_,.str i h,.str j h'=>by
  unfold iS pyEq;rw[MV,uM h h'];simp
theorem vX:∀{σ:List Bool}{a:List D},Sh σ a->mB a=true
 |_,_,.nil=>rfl
 |_,_,.int i h=>by
  show(pl (.int i)&&mB _)=true;rw[vX h];rfl
 |_,_,.str i h=>by
  show(pl (.str i)&&mB _)=true;rw[vX h];rfl
theorem yk:∀{σ:List Bool}{a:List D}(n:Nat),Sh σ a->a.all (eK (n+1))=true
 |_,_,_,.nil=>rfl
 |_,_,n,.int i h=>by rw[Np,yk n h];rfl
 |_,_,n,.str i h=>by rw[Np,yk n h];rfl
end TG
namespace TD
open PySem PySem.Spec L2 TG TX
def dD:cx:=aH (jt (fB (f2 qH (ah 1) (fL ig (af (ah 0) (av))))) (bR (f2 aE (ah 0) (ah 1))) (cz)) (bR (fC (.int 0)))
def aG:cx:=bR (f2 cq (f2 bK (f2 bK (f2 nQ (ah 0) (ah 0)) (f2 nQ (fC (.int 48271)) (ah 0))) (fC (.int 11))) (fC (.int 2147483647)))
def cH:cx:=aH (bB 2 (f2 cq (f2 bK (f2 bK (f2 cq (fR (bi dD 2 2) (af (ah 0) (af (ah 1) (av)))) (fC (.int 2147483647))) (f2 nQ (f2 nQ (fC (.int 69621)) (ah 1)) (ah 1))) (fC (.int 5))) (fC (.int 2147483647)))) (bR (fR (bi aG 1 1) (af (fR (bi aG 1 1) (af (ah 2) (av))) (av))))
def bU:cx:=aH (bB 2 (fC (.str "abcdefghijklmnopqrstuvwxyz"))) (aH (bB 1 (f2 cq (f2 bK (f2 nQ (ah 1) (f2 aE (fJ (af (fC (.int 1)) (af (fC (.int 5)) (af (fC (.int 7)) (af (fC (.int 11)) (af (fC (.int 13)) (af (fC (.int 23)) (av)))))))) (f2 cq (ah 0) (fC (.int 6))))) (f2 cW (ah 0) (fC (.int 6)))) (fC (.int 24)))) (aH (bB 0 (f2 cW (ah 0) (fC (.int 144)))) (aH (jt (fB (f2 kJ (f2 cq (ah 0) (fC (.int 3))) (fC (.int 0)))) (bR (f2 rJ (f2 aE (ah 2) (f2 cq (f2 bK (f2 cW (ah 0) (fC (.int 3))) (f2 cW (ah 1) (fC (.int 8)))) (fC (.int 26)))) (f2 bK (fC (.int 1)) (f2 cq (ah 1) (fC (.int 8)))))) (cz)) (aH (bB 3 (f2 bK (fC (.int 1)) (f2 cq (f2 cW (ah 0) (fC (.int 3))) (fC (.int 8))))) (aH (bB 4 (fC (.str ""))) (aH (kC (fW (af (ah 3) (av))) (gN 5) (aH (bB 6 (f2 cW (ah 0) (f2 bK (fC (.int 24)) (f2 nQ (f2 nQ (fC (.int 11)) (ah 5)) (ah 5))))) (aH (jt (fB (f2 kJ (ah 5) (f2 cq (f2 cW (ah 0) (fC (.int 24))) (ah 3)))) (bB 6 (f2 bK (ah 6) (ah 1))) (cz)) (aH (bB 4 (f2 bK (ah 4) (f2 aE (ah 2) (f2 cq (ah 6) (fC (.int 26)))))) (dX [5,6] cz))))) (bR (ah 4))))))))
noncomputable def cR:cx:=aH (jt (fB (f2 qH (f2 cq (ah 0) (fC (.int 3))) (fC (.int 2)))) (aH (bB 1 (f2 aE (fJ (af (fC (.int 0)) (af (BX (fC (.int 3))) (af (f2 AK (fC (.int 0)) (f2 cq (f2 jU (ah 0) (fC (.int 7))) (f2 jU (fC (.int 10)) (fC (.int 59))))) (af (f2 cq (f2 jU (ah 0) (fC (.int 7))) (f2 jU (fC (.int 10)) (fC (.int 59)))) (av)))))) (f2 cq (f2 cW (ah 0) (fC (.int 3))) (fC (.int 4))))) (bR (bT (af (fC (.str "number")) (af (ah 1) (af (f2 bK (ah 1) (f2 aE (fJ (af (fC (.int 0)) (af (fC (.int 1)) (af (fC (.int 6)) (af (f2 jU (fC (.int 10)) (fC (.int 59))) (av)))))) (f2 cq (f2 cW (ah 0) (fC (.int 12))) (fC (.int 4))))) (av))))))) (cz)) (aH (bB 2 (fC (.str "abcdefghijklmnopqrstuvwxyz"))) (aH (bB 3 (f2 aE (ah 2) (f2 cq (f2 cW (ah 0) (fC (.int 3))) (fC (.int 26))))) (aH (bB 4 (f2 aE (ah 2) (f2 cq (f2 cW (ah 0) (fC (.int 78))) (fC (.int 26))))) (aH (bB 5 (fJ (af (fC (.str "")) (af (ah 3) (af (ah 4) (af (f2 bK (ah 3) (ah 4)) (af (f2 bK (ah 4) (ah 3)) (af (f2 rJ (ah 3) (fC (.int 8))) (af (f2 bK (ah 3) (ah 3)) (af (f2 rJ (ah 4) (fC (.int 3))) (av))))))))))) (aH (kP 6 tS) (dX [1,2,4] (aH (kC (fW (af (fC (.int 8)) (av))) (gN 7) (aH (jt (fB (f2 kJ (f2 sd (f2 yt (f2 cW (ah 0) (fC (.int 2028))) (ah 7)) (fC (.int 1))) (fC (.int 1)))) (mY 6 (f2 aE (ah 5) (ah 7)) (fC (.bl true))) (cz)) (dX [7] cz))) (aH (jt (lI [6] (fB (f2 kJ (fL ui (af (ah 6) (av))) (fC (.int 0))))) (mY 6 (ah 3) (fC (.bl true))) (cz)) (fZ 6 (bR (bT (af (fC (.str "word")) (af (fL cA (af (fL eW (af (fL kU (af (ah 6) (av))) (av))) (av))) (av))))))))))))))
open PySem PySem.Spec L2 TG
local macro_rules
 |`(tactic| simp! only[$xs,*])=>`(tactic| simp only[d9,tH,se,ub,kH,fP,ge_0,zW,pf,AU,ox,mK,oD,oX,Ag,AI,Au,zV,AB,pc,oA,ur,jQ,mr,pH,mw,uw,oN,o5,mi,oB,jJ,pj,jR,jC,iG,iH,pp,lY,iJ,mI,jI,lU,my,iD,mR,jw,ny,mC,jH,ja,lX,mq,A3,uq,zK,Ab,Am,oY,lV,oW,mj,mH,Aq,A2,Ou,Ov,M0,MZ,Ni,Nx,K0,env0,List.replicate,Ow,MJ,NW,Nat.reduceAdd,Nat.reduceSub,M6,M7,oH,oz,tG,oZ,pJ,oG,iK,oM,t7,tZ,uy,pG,jA,jv,jE,jO,jB,jS,rM,tY,sP,sX,tO,sM,jy,jT,gG,gD,pF,iF,gP,gf,gr,jZ,lw,gx,gB,jF,jx,lP,lW,jP,mN,o3,oV,mP,md,gN,if_true,if_false,Ox,Oy,Ng,$xs,*])
theorem Jp(ns:List Int)(i:Int)(h:0<=i):∃c:Int,bi dD 2 2 [.lst (ns.map .int),.int i]=.ok (.int c):=B2 ns i h
theorem t6(xs ys:List D):xI [.tup xs,.tup ys]=some (km xs ys):=nr rfl
local macro_rules
 |`(tactic| simp! only[$xs,*])=>`(tactic| simp only[d9,tH,se,ub,kH,fP,ge_0,zW,pf,AU,ox,mK,oD,oX,Ag,AI,Au,zV,AB,pc,oA,ur,jQ,mr,pH,mw,uw,oN,o5,mi,oB,jJ,pj,jR,jC,iG,iH,pp,lY,iJ,mI,jI,lU,my,iD,mR,jw,ny,mC,jH,ja,lX,mq,A3,uq,zK,Ab,Am,oY,lV,oW,mj,mH,Aq,A2,Ou,Ov,M0,MZ,Ni,Nx,K0,env0,List.replicate,Ow,MJ,NW,Nat.reduceAdd,Nat.reduceSub,M6,M7,oH,oz,tG,oZ,pJ,oG,iK,oM,t7,tZ,uy,pG,jA,jv,jE,jO,jB,jS,rM,tY,sP,sX,tO,sM,jy,jT,gG,gD,pF,iF,gP,gf,gr,jZ,lw,gx,gB,jF,jx,lP,lW,jP,mN,o3,oV,mP,md,gN,if_true,if_false,Ox,Oy,Ng,$xs,*])
abbrev fld(p:Str×D):D:=.tup [.str p.1,p.2]
end TD
namespace T4
open PySem PySem.Spec L2 TG TD
local macro_rules
 |`(tactic| simp! only[$xs,*])=>`(tactic| simp only[d9,tH,se,ub,kH,fP,ge_0,zW,pf,AU,ox,mK,oD,oX,Ag,AI,Au,zV,AB,pc,oA,ur,jQ,mr,pH,mw,uw,oN,o5,mi,oB,jJ,pj,jR,jC,iG,iH,pp,lY,iJ,mI,jI,lU,my,iD,mR,jw,ny,mC,jH,ja,lX,mq,A3,uq,zK,Ab,Am,oY,lV,oW,mj,mH,Aq,A2,Ou,Ov,M0,MZ,Ni,Nx,K0,env0,List.replicate,Ow,MJ,NW,Nat.reduceAdd,Nat.reduceSub,M6,M7,oH,oz,tG,oZ,pJ,oG,iK,oM,t7,tZ,uy,pG,jA,jv,jE,jO,jB,jS,rM,tY,sP,sX,tO,sM,jy,jT,gG,gD,pF,iF,gP,gf,gr,jZ,lw,gx,gB,jF,jx,lP,lW,jP,mN,o3,oV,mP,md,gN,if_true,if_false,Ox,Oy,Ng,$xs,*])
theorem C8{x:Str}{n:Int}(h:1<=n)(h':n<=1000)(hx:x.length<=1000):rJ (.str x) (.int n)=some (.str (jD x n)):=by
 show(if decide (1<=n/\n<=1000/\x.length<=1000)then some (D.str (jD x n))else none)=_;rw[decide_eq_true ⟨h,h',hx⟩];rfl
theorem eN(x:Int)(h0:0<=x)(h1:x<2147483700):∃y:Int,0<=y/\y<2147483647/\bi aG 1 1 [.int x]=.ok (.int y):=by
 have m1:=qw (i:=x) (j:=x) ‹0› ‹0›;have m2:=qw (i:=48271) (j:=x) (by decide) (by decide);have g:=λi=>eS (i:=i) (show(0:Int)<2147483647 by decide);refine⟨(x*x+48271*x+11)%2147483647,Oz _ (by decide),OA _ (by decide),?_⟩;rw[pI];unfold aG;simp! only[m1,m2,g]
theorem vB(ns:List Int)(k:Nat)(hk:k<=100):∃y:Int,0<=y/\y<2147483647/\bi cH 2 3 [.lst (ns.map .int),.int k]=.ok (.int y):=by
 obtain⟨c,ec⟩:=TD.Jp ns k ‹0›;have m1:=qw (i:=69621) (j:=(k:Int)) (by decide) (by decide);have m2:=qm (i:=69621*(k:Int)) (j:=(k:Int)) ‹0› ‹0›;have g:=λi=>eS (i:=i) (show(0:Int)<2147483647 by decide);obtain⟨y1,a1,b1,e1⟩:=eN ((c%2147483647+69621*(k:Int)*(k:Int)+5)%2147483647) (Oz _ (by decide)) (by have:=OA (c%2147483647+69621*(k:Int)*(k:Int)+5) (show(0:Int)<2147483647 by decide);omega);obtain⟨y2,a2,b2,e2⟩:=eN y1 a1 ‹0›;refine⟨y2,a2,b2,?_⟩;rw[gq];unfold cH;simp! only[ec,g,m1,m2,e1,e2]
theorem uE{i:Nat}{fk fv:FX}{k:Ks}{ρ:aw}{al:List (Key×D)}{q:Key}{d v:D}(h:ρ[i]?=some (some (.own (xi al))))(ek:fk ρ=.ok d)(hd:d=bF q)(ev:fv ρ=.ok v)(hl:al.length<=1000):
  mY i fk fv k ρ=k.nx (ρ.set i (some (.own (xi (qa al q v))))):=by
 subst hd;have e:tL (ie al) (al.map (·.2)) (bF q) v=some (qa al q v):=by
  unfold tL;rw[sQ];show(keyOf (bF q)).bind _=_;rw[j4];show(if small al.length then _ else _)=_;rw[dJ ‹0›];rfl
 unfold mY;rw[h];show si ((fv ρ).bind λv=>(fk ρ).bind λq=>rO (tL (ie al) (al.map (·.2)) q v)) k ρ _=_;rw[ev,d9,ek,d9,e];rfl
abbrev zm(ws:List Str):List (Key×D):=ws.map λw=>((.inr w:Key),D.bl true)
abbrev wd(ws:List Str):D:=xi (zm ws)
def pC(ws:List Str)(w:Str):List Str:=if w∈ws then ws else ws++[w]
theorem yE(ws:List Str)(w:Str):qa (zm ws) (.inr w) (.bl true)=zm (pC ws w):=by
 have e:((zm ws).any λp=>decide (p.1=(.inr w:Key)))=decide (w∈ws):=by
  induction ws with
  |nil=>simp
  |cons a ws ih=>
   show(decide ((.inr a:Key)=.inr w)||(zm ws).any λp=>decide (p.1=(.inr w:Key)))=_;rw[ih];by_cases z:a=w
   ·subst z;simp
   ·have z':¬(.inr a:Key)=.inr w:=λq=>z (Sum.inr.inj q);have z2:¬w=a:=λq=>z q.symm;simp[z',z2]
 unfold qa pC;rw[e];by_cases h:w∈ws
 ·rw[if_pos (by simpa using h),if_pos h];show(ws.map _).map _=_;rw[Oc];refine Ny λa _=>?_;show(if(.inr a:Key)=.inr w then((.inr a:Key),D.bl true)else((.inr a:Key),D.bl true))=_;split<;>rfl
 ·rw[if_neg (by simpa using h),if_neg h];show _=(ws++[w]).map _;rw[Nz];rfl
theorem vp{ws:List Str}(w:Str)(h:ws.Nodup):(pC ws w).Nodup:=by
 unfold pC;split
 ·exact h
 ·rename_i z;exact List.nodup_append.mpr ⟨h,List.nodup_cons.mpr ⟨by simp,Nb⟩,λa ha b hb e=>by
   rw[Oi]at hb;subst hb e;exact z ha⟩
theorem rC(ws:List Str)(w:Str):(pC ws w).length<=ws.length+1:=by
 unfold pC;split
 ·omega
 ·simp
theorem Fq(ws:List Str):ie (zm ws)=ws.map D.str:=by
 show(ws.map _).map _=_;rw[Oc];rfl
theorem BQ(ws:List Str):keysOf (ie (zm ws))=some (ws.map .inr):=by
 rw[show ie (zm ws)=(ws.map (.inr:Str->Key)).map bF from by rw[Fq,Oc];rfl];exact cy _
theorem D3(ws:List Str):ui [wd ws]=some (.int ws.length):=by
 show(keysOf (ie (zm ws))).bind _=_;rw[BQ];show some (D.int ((ws.map _).length:Int))=_;rw[MS]
theorem wX(ws:List Str):kU [wd ws]=some (.lst (ws.map .str)):=by
 show(keysOf (ie (zm ws))).bind _=_;rw[BQ];show some (D.lst (ie (zm ws)))=_;rw[Fq]
theorem ro(is:List Nat)(f:aw->R Bool)(ρ:aw):lI is f ρ=Ci (f (frzs is ρ)):=nr rfl
theorem FV(i:Nat)(ρ:aw):frzs [i] ρ=frz i ρ:=nr rfl
theorem BL(i:Int)(k:Nat):yt (.int i) (.int k)=some (.int (i/2^k)):=by
 show(if decide (0<=(k:Int))then some (D.int (i/2^(k:Int).toNat))else none)=_;rw[decide_eq_true ‹0›];rfl
theorem uN(i j:Int):sd (.int i) (.int j)=some (.int (Builtin.bitAnd i j)):=nr rfl
theorem HK(a b c d:D):kI [a,b,c,d]=some (.lst [a,b,c,d]):=nr rfl
theorem LK(a b c d e f g h:D):kI [a,b,c,d,e,f,g,h]=some (.lst [a,b,c,d,e,f,g,h]):=nr rfl
theorem L4(a b c d:D)(i:Int)(h0:0<=i)(h1:i<4):∃x∈[a,b,c,d],aE (.lst [a,b,c,d]) (.int i)=some x:=by
 rcases(show i=0\/i=1\/i=2\/i=3 by omega)with z|z|z|z<;>subst z
 ·exact⟨a,by simp,rfl⟩
 ·exact⟨b,by simp,rfl⟩
 ·exact⟨c,by simp,rfl⟩
 ·exact⟨d,by simp,rfl⟩
theorem Gy(B:cx)(n:Nat)(a b c d e f:D):bi B 6 n [a,b,c,d,e,f]=B K0 (env0 n [a,b,c,d,e,f]):=nr rfl
theorem nR{α:Type}{ρ:aw}{g:GF}{C:aw->R Bool}{Fe:FX}(mk:α->D)(p:α->Bool)(v:α->D):∀xs:List α,(∀a∈xs,∃ρ1,g (mk a) ρ=some ρ1/\C ρ1=.ok (p a)/\(p a=true->Fe ρ1=.ok (v a)))->
  Av ρ g C Fe (xs.map mk)=.ok ((xs.filter p).map v)
 |[],_=>rfl
 |a::xs,h=>by
  obtain⟨ρ1,h1,h2,h3⟩:=h a Mv;rw[M0,nX,h1,fP,d9,h2,kH,d9,nR mk p v xs λb hb=>h b (Mw _ hb)];cases e:p a with
  |true=>rw[if_pos rfl,h3 e,kH,d9,N6 e];rfl
  |false=>rw[if_neg MG,N7 (by simp[e])]
def mx(a b:Int):Int:=if b>a then b else a
local macro_rules
 |`(tactic| simp! only[$xs,*])=>`(tactic| simp only[d9,tH,se,ub,kH,fP,ge_0,zW,pf,AU,ox,mK,oD,oX,Ag,AI,Au,zV,AB,pc,oA,ur,jQ,mr,pH,mw,uw,oN,o5,mi,oB,jJ,pj,jR,jC,iG,iH,pp,lY,iJ,mI,jI,lU,my,iD,mR,jw,ny,mC,jH,ja,lX,mq,A3,uq,zK,Ab,Am,oY,lV,oW,mj,mH,Aq,A2,Ou,Ov,M0,MZ,Ni,Nx,K0,env0,List.replicate,Ow,MJ,NW,Nat.reduceAdd,Nat.reduceSub,M6,M7,oH,oz,tG,oZ,pJ,oG,iK,oM,t7,tZ,uy,pG,jA,jv,jE,jO,jB,jS,rM,tY,sP,sX,tO,sM,jy,jT,gG,gD,pF,iF,gP,gf,gr,jZ,lw,gx,gB,jF,jx,lP,lW,jP,mN,o3,oV,mP,md,gN,if_true,if_false,Ox,Oy,Ng,$xs,*])
def LT:List Nat:=("abcdefghijklmnopqrstuvwxyz":Str).cps.toList
theorem BZ:∀a<26,∀b<26,LT[a]?=LT[b]?->a=b:=by decide +kernel
def stp(b:Int):Int:=([1,5,7,11,13,23]:List Int).getD (b%6).toNat 0
def kk(b k:Int):Int:=(k*stp b+b/6)%24
def jz(b:Int):Int:=b/144/24%(1+b/144/3%8)
def yH(b k:Int)(w:Str):Prop:=
 (b/144%3=0->w.length=(1+kk b k%8).toNat/\w.cps.toList[0]?=LT[((b/144/3+kk b k/8)%26).toNat]?)/\
 (b/144%3≠0->w.cps.toList[(jz b).toNat]?=LT[((b/144/(24+11*jz b*jz b)+kk b k)%26).toNat]?)
theorem HP(b k:Int):0<=kk b k/\kk b k<24:=⟨Oz _ (by decide),OA _ (by decide)⟩
theorem GN{b k1 k2:Int}(a1:0<=k1)(a2:k1<24)(b1:0<=k2)(b2:k2<24)(h:kk b k1=kk b k2):k1=k2:=by
 unfold kk stp at h;rcases(show b%6=0\/b%6=1\/b%6=2\/b%6=3\/b%6=4\/b%6=5 by omega)with z|z|z|z|z|z<;>rw[z]at h<;>simp at h<;>omega
theorem Dh{b k1 k2:Int}{w:Str}(a1:0<=k1)(a2:k1<24)(b1:0<=k2)(b2:k2<24)(h1:yH b k1 w)(h2:yH b k2 w):k1=k2:=by
 refine GN (b:=b) a1 a2 b1 b2 ?_;have q1:=HP b k1;have q2:=HP b k2;by_cases z:b/144%3=0
 ·obtain⟨l1,e1⟩:=h1.1 z;obtain⟨l2,e2⟩:=h2.1 z
  have:=BZ _ ‹0› _ ‹0› (e1.symm.trans e2)
  omega
 ·have:=BZ _ ‹0› _ ‹0› ((h1.2 z).symm.trans (h2.2 z))
  omega
theorem yG(x:Str)(h:x.length<=1000)(i:Int)(h0:0<=i)(h1:i<x.length):∃y:Str,y.length=1/\y.cps.toList[0]?=x.cps.toList[i.toNat]?/\aE (.str x) (.int i)=some (.str y):=by
 have hl:x.cps.toList.length=x.length:=by simp[Str.length]
 have hi:i<x.cps.toList.length:=by omega
 have hn:i.toNat<x.cps.toList.length:=by omega
 refine⟨⟨#[x.cps.toList[i.toNat]'hn]⟩,rfl,?_,?_⟩
 ·rw[Nq hn];rfl
 ·show(if small x.length then(nI x.cps.toList i).bind λc=>some (D.str ⟨#[c]⟩)else none)=_;rw[dJ ‹0›,if_pos rfl,ot h0 hi];rfl
theorem sV(c:Array Nat)(hc:0<c.size):∀(n:Nat)(a:Array Nat),((List.replicate n c).foldl (·++·) a).toList[0]?=if a.size=0 then(if n=0 then none else c.toList[0]?)else a.toList[0]?
 |0,a=>by
  rw[Ow,List.foldl_nil];split
  ·rename_i h;simp[h]
  ·rfl
 |n+1,a=>by
  rw[N0,N1,sV c hc n (a++c)]
  have:¬(a++c).size=0:=by rw[Array.size_append];omega
  rw[if_neg this,Array.toList_append];by_cases h:a.size=0
  ·rw[if_pos h,if_neg ‹0›,MM (by simp[h])];simp[h]
  ·rw[if_neg h,MO (by simp;omega)]
theorem CB{y:Str}{n:Int}(h:1<=n)(hy:y.length=1):(jD y n).cps.toList[0]?=y.cps.toList[0]?:=by
 unfold jD;split
 ·rfl
 ·have hc:0<y.cps.size:=by have:y.cps.size=1:=hy;omega
  rw[sV y.cps hc n.toNat #[]];split
  ·rw[if_neg ‹0›]
  ·rename_i z;exact absurd rfl z
theorem y6(x y:Str):(x++y).cps.toList=x.cps.toList++y.cps.toList:=by
 show(x.cps++y.cps).toList=_;rw[Array.toList_append]
theorem uQ(x:Str):x.cps.toList.length=x.length:=by simp[Str.length]
theorem yY(b k:Int)(hb:0<=b)(hk:0<=k):∃w:Str,bi bU 2 7 [.int b,.int k]=.ok (.str w)/\yH b k w:=by
 have LL:(("abcdefghijklmnopqrstuvwxyz":Str)).length=26:=by decide +kernel
 have hLT:LT=("abcdefghijklmnopqrstuvwxyz":Str).cps.toList:=rfl;generalize hL:("abcdefghijklmnopqrstuvwxyz":Str)=L at LL hLT;have g3:=λi=>eS (i:=i) (show(0:Int)<3 by decide);have g6:=λi=>eS (i:=i) (show(0:Int)<6 by decide);have g8:=λi=>eS (i:=i) (show(0:Int)<8 by decide);have g24:=λi=>eS (i:=i) (show(0:Int)<24 by decide);have g26:=λi=>eS (i:=i) (show(0:Int)<26 by decide);have d3:=λi=>kX (i:=i) (show(0:Int)<3 by decide) (show(3:Int)<10^200 by decide);have d6:=λi=>kX (i:=i) (show(0:Int)<6 by decide) (show(6:Int)<10^200 by decide);have d8:=λi=>kX (i:=i) (show(0:Int)<8 by decide) (show(8:Int)<10^200 by decide);have d24:=λi=>kX (i:=i) (show(0:Int)<24 by decide) (show(24:Int)<10^200 by decide);have d144:=λi=>kX (i:=i) (show(0:Int)<144 by decide) (show(144:Int)<10^200 by decide);obtain⟨st,hst,hstp,est⟩:∃st:Int,(0<=st/\st<=25)/\stp b=st/\aE (.lst [.int 1,.int 5,.int 7,.int 11,.int 13,.int 23]) (.int (b%6))=some (.int st):=by
  rcases(show b%6=0\/b%6=1\/b%6=2\/b%6=3\/b%6=4\/b%6=5 by omega)with z|z|z|z|z|z<;>rw[z]
  ·exact⟨1,by decide,by unfold stp;rw[z];rfl,rfl⟩
  ·exact⟨5,by decide,by unfold stp;rw[z];rfl,rfl⟩
  ·exact⟨7,by decide,by unfold stp;rw[z];rfl,rfl⟩
  ·exact⟨11,by decide,by unfold stp;rw[z];rfl,rfl⟩
  ·exact⟨13,by decide,by unfold stp;rw[z];rfl,rfl⟩
  ·exact⟨23,by decide,by unfold stp;rw[z];rfl,rfl⟩
 have l6:∀a b c d e f:D,kI [a,b,c,d,e,f]=some (.lst [a,b,c,d,e,f]):=λ_ _ _ _ _ _=>rfl;have ms:=qm (i:=k) (j:=st) ‹0› ‹0›;have hkk:kk b k=(k*st+b/6)%24:=by unfold kk;rw[hstp]
 generalize hk':(k*st+b/6)%24=k' at hkk;have k1:0<=k'/\k'<24:=by omega
 have hP:∀w,yH b k w=((b/144%3=0->w.length=(1+kk b k%8).toNat/\w.cps.toList[0]?=LT[((b/144/3+kk b k/8)%26).toNat]?)/\(b/144%3≠0->w.cps.toList[(jz b).toNat]?=LT[((b/144/(24+11*jz b*jz b)+kk b k)%26).toNat]?)):=λ_=>rfl;have hj:jz b=b/144/24%(1+b/144/3%8):=rfl;generalize hb':b/144=b' at hP hj;generalize jz b=j0 at hP hj;rw[hkk]at hP;simp only[hP];have b0:0<=b':=by omega
 rw[gq];unfold bU;by_cases h:b'%3=0
 ·have h':(b'%3==0)=true:=by simp[h]
  obtain⟨y,hy,hy0,e1⟩:=yG L ‹0› ((b'/3+k'/8)%26) ‹0› ‹0›;have mu:=C8 (x:=y) (n:=1+k'%8) ‹0› ‹0› ‹0›;refine⟨jD y (1+k'%8),?_,λ_=>⟨by rw[wU ‹0›,hy,Nat.mul_one],by rw[CB ‹0› hy,hy0,hLT]⟩,λz=>absurd h z⟩;simp! only[hL,g6,l6,est,ms,d6,g24,hk',d144,hb',g3,h',d3,d8,g26,e1,g8,mu]
 ·have h':(b'%3==0)=false:=by simp[h]
  obtain⟨n,hn,hn1,hn2⟩:∃n:Nat,1+b'/3%8=(n:Int)/\1<=n/\n<=8:=⟨(1+b'/3%8).toNat,by omega,by omega,by omega⟩
  rw[hn]at hj;have hj1:0<=j0/\j0<(n:Int):=by rw[hj];exact⟨Oz _ ‹0›,OA _ ‹0›⟩
  have rn:=iI n ‹0›;obtain⟨T,hT⟩:∃T:cx,T=(aH (kC (fW (af (ah 3) (av))) (gN 5) (aH (bB 6 (f2 cW (ah 0) (f2 bK (fC (.int 24)) (f2 nQ (f2 nQ (fC (.int 11)) (ah 5)) (ah 5))))) (aH (jt (fB (f2 kJ (ah 5) (f2 cq (f2 cW (ah 0) (fC (.int 24))) (ah 3)))) (bB 6 (f2 bK (ah 6) (ah 1))) (cz)) (aH (bB 4 (f2 bK (ah 4) (f2 aE (ah 2) (f2 cq (ah 6) (fC (.int 26)))))) (dX [5,6] cz))))) (bR (ah 4))):=⟨_,rfl⟩
  have key:∃w:Str,(w.cps.toList[j0.toNat]?=LT[((b'/(24+11*j0*j0)+k')%26).toNat]?)/\T K0 [some (.val (.int b')),some (.val (.int k')),some (.val (.str L)),some (.val (.int n)),some (.val (.str "")),none,none]=.ok (.str w):=by
   rw[hT,iD,ja];simp! only[rn];refine eP (Q:=λz=>∃w:Str,(w.cps.toList[j0.toNat]?=LT[((b'/(24+11*j0*j0)+k')%26).toNat]?)/\z=.ok (.str w)) (λi ρ=>∃w:Str,w.length=i/\(j0<(i:Int)->w.cps.toList[j0.toNat]?=LT[((b'/(24+11*j0*j0)+k')%26).toNat]?)/\ρ=[some (.val (.int b')),some (.val (.int k')),some (.val (.str L)),some (.val (.int n)),some (.val (.str w)),none,none]) ?_ ?_ ?_
   ·rintro i d ρ kx hd ⟨w,hw,hw2,rfl⟩;have hi:=cT hd;rw[cu]at hi;have hdi:d=.int (i:Int):=by
     rw[iL,MP,NE hi]at hd;cases hd;simp
    subst hdi;have m1:=qw (i:=11) (j:=(i:Int)) (by decide) (by decide);have m2:=qm (i:=11*(i:Int)) (j:=(i:Int)) ‹0› ‹0›;have ii:0<=11*(i:Int)*(i:Int):=Int.mul_nonneg ‹0› ‹0›;have ii2:11*(i:Int)*(i:Int)<=11*8*8:=Int.mul_le_mul ‹0› ‹0› ‹0› (by decide);have dd:=λz=>kX (i:=z) (show(0:Int)<24+11*(i:Int)*(i:Int)by omega) (show 24+11*(i:Int)*(i:Int)<10^200 by
     have:(10:Int)^200>10000:=by decide +kernel
     omega)
    have gn:=λz=>eS (i:=z) (show(0:Int)<(n:Int)by omega);generalize hs:b'/(24+11*(i:Int)*(i:Int))=s;by_cases hq:((i:Int)==b'/24%(n:Int))=true
    ·obtain⟨y,hy,hy0,e1⟩:=yG L ‹0› ((s+k')%26) ‹0› ‹0›;have ad:=hU w y ‹0› ‹0›;refine⟨_,_,rfl,⟨w++y,by rw[zB];omega,λ_=>?_,rfl⟩,?_⟩
     ·have eq:(i:Int)=b'/24%(n:Int):=(by simpa using hq);rw[<-hj]at eq;subst eq;rw[y6,MM (by rw[uQ];omega),uQ,hw,MT,Ot,hy0,hLT,<-hs]
     simp! only[m1,m2,dd,hs,d24,gn,hq,g26,e1,ad]
    ·have hq':((i:Int)==b'/24%(n:Int))=false:=(by simpa using hq);obtain⟨y,hy,hy0,e1⟩:=yG L ‹0› (s%26) ‹0› ‹0›;have ad:=hU w y ‹0› ‹0›;refine⟨_,_,rfl,⟨w++y,by rw[zB];omega,λz=>?_,rfl⟩,?_⟩
     ·have ne:j0≠(i:Int):=λq=>hq (by rw[<-q,<-hj];simp);rw[y6,MO (by rw[uQ];omega)];exact hw2 ‹0›
     simp! only[m1,m2,dd,hs,d24,gn,hq',g26,e1,ad]
   ·exact⟨"",by decide +kernel,λz=>by omega,rfl⟩
   ·rintro ρ' ⟨w,hw,hw2,rfl⟩;rw[cu]at hw2;exact⟨w,hw2 ‹0›,by simp! only[]⟩
  obtain⟨w,hw,ew⟩:=key;refine⟨w,?_,λz=>absurd z h,λ_=>hw⟩;rw[<-hT];simp only[K0]at ew;simp! only[hL,g6,l6,est,ms,d6,g24,hk',d144,hb',g3,h',d3,g8,hn,ew]
theorem qz:∀{σ:List Bool}{a:List D},Sh σ a->∃q:List Key,a=q.map bF
 |_,_,.nil=>⟨[],rfl⟩
 |_,_,.int i h=>by
  obtain⟨q,e⟩:=qz h;exact⟨.inl i::q,by rw[M0,e];rfl⟩
 |_,_,.str x h=>by
  obtain⟨q,e⟩:=qz h;exact⟨.inr x::q,by rw[M0,e];rfl⟩
theorem qN:∀{p q:List Key},p.map bF=q.map bF->p=q:=λ{p q} h=>by
 have:=congrArg keysOf h
 rw[cy,cy]at this;exact Option.some.inj this
section
open Classical
variable(m:Nat)
noncomputable def LY(acc:List (List D))(r:List D):List (List D):=if r.take m∈acc then acc else acc++[r.take m]
noncomputable def fs(t:List (List D)):List (List D):=t.foldl (LY m) []
noncomputable def gp(t:List (List D))(f:List D):List (List D):=(t.filter λr=>decide (r.take m=f)).map (List.drop m)
noncomputable def flat(t:List (List D)):List (List D):=(fs m t).flatMap λf=>(gp m t f).map (f++·)
end
open Classical in
theorem o0(al:List (List Key×D))(q:List Key)(v:D):(il al q v).map (·.1)=if q∈al.map (·.1)then al.map (·.1)else al.map (·.1)++[q]:=by
 have e:(al.any λp=>decide (p.1=q))=true↔q∈al.map (·.1):=by
  rw[OB,List.mem_map];simp only[decide_eq_true_eq]
 unfold il;by_cases h:q∈al.map (·.1)
 ·rw[if_pos (e.mpr h),if_pos h,Oc];refine Ny λp _=>?_;show(if p.1=q then(p.1,v)else p).1=p.1;split<;>rfl
 ·rw[if_neg λz=>h (e.mp z),if_neg h,Nz];rfl
theorem Bj{al:List (List Key×D)}{q:List Key}{v:D}{p:List Key×D}(h:p∈il al q v):p∈al\/p=(q,v):=by
 unfold il at h;split at h
 ·obtain⟨a,ha,e⟩:=List.mem_map.mp h;by_cases z:a.1=q
  ·rw[if_pos z]at e;exact .inr (by rw[<-e,z])
  ·rw[if_neg z]at e;exact .inl (by rw[<-e];exact ha)
 ·rcases List.mem_append.mp h with z|z
  ·exact .inl z
  ·exact .inr (List.mem_singleton.mp z)
theorem Do{al:List (List Key×D)}(q:List Key)(v:D)(h:(al.map (·.1)).Nodup):((il al q v).map (·.1)).Nodup:=by
 rw[o0];split
 ·exact h
 ·rename_i z;exact List.nodup_append.mpr ⟨h,by simp,λa ha b hb e=>by
   rw[List.mem_singleton.mp hb]at e;rw[e]at ha;exact z ha⟩
theorem Cv(al:List (List Key×D))(q:List Key)(v:D):(il al q v).length<=al.length+1:=by
 have:=congrArg List.length (o0 al q v)
 rw[MS]at this;rw[this];split<;>simp
theorem qP:∀{al:List (List Key×D)}{p:List Key×D},(al.map (·.1)).Nodup->p∈al->oT al p.1=some p.2
 |a::al,p,h,hp=>by
  obtain⟨h1,h2⟩:=List.nodup_cons.mp (by simpa using h:(a.1::al.map (·.1)).Nodup);unfold oT;by_cases e:a.1=p.1
  ·rw[Oo (by simpa using e)];rcases List.mem_cons.mp hp with z|z
   ·rw[z];rfl
   ·exact absurd (show a.1∈al.map (·.1)from by rw[e];exact List.mem_map.mpr ⟨p,z,rfl⟩) h1
  ·rw[Oq (by simpa using e)];rcases List.mem_cons.mp hp with z|z
   ·exact absurd (by rw[z]) e
   ·exact qP h2 z
theorem zp(al:List (List Key×D)):Dg (encK al) (al.map (·.2))=some al:=by
 cases al with
 |nil=>rfl
 |cons p al=>exact ou (p::al)
theorem Bk(al:List (List Key×D)):o6 [eL al]=some (.lst (encK al)):=by
 show(Dg (encK al) (al.map (·.2))).bind _=_;rw[zp];rfl
theorem C5(al:List (List Key×D))(q:List Key):q5 (eL al) (.tup (q.map bF))=oT al q:=by
 show(Dg (encK al) (al.map (·.2))).bind _=_;rw[zp];show(jp (.tup (q.map bF))).bind _=_;rw[rN];rfl
theorem D5{al:List (List Key×D)}{σ:List Bool}(nd:(al.map (·.1)).Nodup)(hs:∀p∈al,Sh σ (p.1.map bF))(h0:σ≠[])(hl:al.length<64):eW [.lst (encK al)]=some (.lst (iV d7 (encK al)))/\v9 d7 (iV d7 (encK al)):=by
 have hx:∀x∈encK al,∃k,x=.tup k/\Sh σ k:=λx hx=>by
  obtain⟨p,hp,rfl⟩:=List.mem_map.mp hx;exact⟨_,rfl,hs p hp⟩
 have pw:(encK al).Pairwise λx y=>d7 x≠d7 y:=by
  rw[N9]
  have:=List.pairwise_map.mp nd
  exact this.imp λ{a b} ne e=>ne (qN e)
 have a:Gx (encK al):=⟨by rw[MS];exact hl,σ,h0,hx,pw⟩
 refine⟨?_,mF (σ:=σ) (λx h=>by obtain⟨k,e,s⟩:=hx x h;rw[e];exact s) pw⟩;show pS (encK al)=_;unfold pS;rw[if_pos a]
theorem zf:∀vs:List D,(∀v∈vs,∃r,v=.tup r)->∃t:List (List D),vs=t.map .tup
 |[],_=>⟨[],rfl⟩
 |v::vs,h=>by
  obtain⟨r,e⟩:=h v Mv;obtain⟨t,et⟩:=zf vs λv hv=>h v (Mw _ hv);exact⟨r::t,by rw[e,et];rfl⟩
def AL:Nat->D->Prop
 |0,d=>(∃i,d=.int i)\/∃x,d=.str x
 |n+1,d=>((∃i,d=.int i)\/∃x,d=.str x)\/∃ds,d=.tup ds/\ds.length<=1000/\∀x∈ds,AL n x
theorem AL.of0{d:D}(h:AL 0 d):∀n,AL n d
 |0=>h
 |_+1=>.inl h
theorem AL.up:∀{n:Nat}{d:D},AL n d->AL (n+1) d
 |0,_,h=>.inl h
 |n+1,_,h=>by
  rcases h with h|⟨ds,e,l,f⟩
  ·exact .inl h
  ·exact .inr ⟨ds,e,l,λx hx=>AL.up (f x hx)⟩
theorem AL.le{n m:Nat}(h:n<=m){d:D}(hd:AL n d):AL m d:=by
  induction m with
  | zero => have : n = 0 := by omega
            subst this;exact hd
  |succ m ih=>
    by_cases e:n=m+1
    ·subst e;exact hd
    ·exact AL.up (ih ‹0›)
theorem AL.tup{n:Nat}{ds:List D}(l:ds.length<=1000)(h:∀x∈ds,AL n x):AL (n+1) (.tup ds):=.inr ⟨ds,rfl,l,h⟩
theorem sS:∀{σ:List Bool}{a:List D},Sh σ a->∀x∈a,AL 0 x
 |_,_,.int i h,x,hx=>by
  rcases List.mem_cons.mp hx with z|z
  ·exact .inl ⟨i,z⟩
  ·exact sS h x z
 |_,_,.str i h,x,hx=>by
  rcases List.mem_cons.mp hx with z|z
  ·exact .inr ⟨i,z⟩
  ·exact sS h x z
end T4
namespace Tk51
open PySem PySem.Spec L2 TG TX TD
def top(i:Nat):Qx:=PySem.Challenge.pw_twoglass_k51_joins_put.main.body.getD i (.Pass ⟨0,0,0,0⟩)
abbrev fN:Qx:=top 21
theorem sK:bq ["_law_found","_law_due_here","_law_one","_law_other"] ["_law_found","_law_due_here"] (aA fN):=‹2›
def dF(bb:List D->R D):cx:=aH (jt (fh (p5 "str" (ah 1))) (bR (rS (p5 "str" (ah 0)) (f2 kJ (ah 0) (ah 1)))) (cz)) (aH (jt (BG (fh (p5 "bool" (ah 1))) (fh (p5 "bool" (ah 0)))) (bR (rS (p5 "bool" (ah 1)) (rS (p5 "bool" (ah 0)) (f2 kJ (ah 0) (ah 1))))) (cz)) (aH (jt (fh (p5 "int" (ah 1))) (bR (rS (p5 "int" (ah 0)) (f2 kJ (ah 0) (ah 1)))) (cz)) (aH (jt (BG (vx (fh (p5 "tuple" (ah 0)))) (fB (f2 BC (fL ig (af (ah 0) (av))) (fL ig (af (ah 1) (av)))))) (bR (fC (.bl false))) (cz)) (aH (kC (AO (af (ah 0) (af (ah 1) (av)))) (gT 2 (nH [2,3])) (aH (jt (vx (fh (fR bb (af (ah 2) (af (ah 3) (av)))))) (bR (fC (.bl false))) (cz)) (dX [2,3] cz))) (bR (fC (.bl true)))))))
def bb:Nat->List D->R D
 |0=>λ_=>un
 |n+1=>bi (dF (bb n)) 2 4
theorem jg(n:Nat):bb (n+1)=bi (dF (bb n)) 2 4:=by rw[bb]
theorem cZ:∀n:Nat,Ar 2 (bb n)
 |0=>λ_ h=>absurd (by rw[bb]) h
 |n+1=>by rw[jg];exact aU
abbrev kG:Qx:=inClass (top 7) 3
theorem wQ:bq ["self","forms","tables","view"] ["self","forms","tables","view"] (aA kG):=‹2›
def fe:cx:=bR (bT (af (ah 3) (af (f2 aE (ah 2) (fC (.int 1))) (av))))
abbrev i9:Qx:=top 2
theorem uJ:bq ["many","rows"] ["many","rows"] (aA i9):=‹2›
noncomputable def gZ:cx:=bR (fL cA (af (f2 oR (ah 1) (ah 0)) (av)))
abbrev n9:Qx:=top 4
theorem Al:bq ["many","rows"] ["many","rows"] (aA n9):=‹2›
def fS:cx:=bR (fL uU (af (iW [none,some 0] (bL (ah 1)) (gN 0) (dZ) (bT (af (bw (ah 0) (aY) (bV (ah 1))) (af (ah 0) (av))))) (av)))
abbrev kE:Qx:=top 5
theorem wt:bq ["many","rows","others","taken"] ["many","rows","others"] (aA kE):=‹2›
noncomputable def gF:cx:=aH (bB 3 (fR (bi fS 2 2) (af (ah 0) (af (ah 1) (av))))) (bR (fR (bi gZ 2 2) (af (ah 0) (af (f2 bK (fL y4 (af (ah 1) (av))) (iW [none,some 0,some 3] (bL (ah 2)) (gN 0) (fB (f2 iE (bw (ah 0) (aY) (bV (ah 1))) (ah 2))) (ah 0))) (av)))))
abbrev jX:Qx:=inClass (top 8) 3
theorem wZ:bq ["self","forms","tables","view","many","end","others","hidden","one","other"] ["self","forms","tables","view"] (aA jX):=‹2›
noncomputable def dq:cx:=aH (bB 4 (fL ig (af (f2 aE (f2 aE (ah 1) (fC (.int 0))) (fC (.int 0))) (av)))) (aH (bB 5 (f2 bK (ah 4) (fL ig (af (f2 aE (f2 aE (ah 1) (fC (.int 0))) (fC (.int 1))) (av))))) (aH (bB 6 (fR (bi fS 2 2) (af (ah 4) (af (f2 aE (ah 2) (fC (.int 1))) (av))))) (aH (bB 7 (iW [none,some 4,some 6] (bL (f2 aE (ah 2) (fC (.int 0)))) (gN 0) (fB (f2 iE (bw (ah 0) (aY) (bV (ah 1))) (ah 2))) (ah 0))) (aH (bB 8 (fR (bi gF 3 4) (af (ah 4) (af (iW [none,some 5] (bL (ah 3)) (gN 0) (dZ) (bw (ah 0) (aY) (bV (ah 1)))) (af (ah 7) (av)))))) (aH (bB 9 (fR (bi gF 3 4) (af (ah 4) (af (iW [none,some 4,some 5] (bL (ah 3)) (gN 0) (dZ) (f2 bK (bw (ah 0) (aY) (bV (ah 1))) (bw (ah 0) (bV (ah 2)) (aY)))) (af (f2 aE (ah 2) (fC (.int 1))) (av)))))) (bR (bT (af (ah 8) (af (ah 9) (av))))))))))
abbrev jW:Qx:=inClass (top 7) 2
theorem wC:bq ["self","forms","tables"] ["self","forms","tables"] (aA jW):=‹2›
def fj:cx:=bR (f2 aE (ah 2) (fC (.int 0)))
abbrev kn:Qx:=inClass (top 8) 2
theorem vT:bq ["self","forms","tables","many","others"] ["self","forms","tables"] (aA kn):=‹2›
def dH:cx:=aH (bB 3 (fL ig (af (f2 aE (f2 aE (ah 1) (fC (.int 0))) (fC (.int 0))) (av)))) (aH (bB 4 (fR (bi fS 2 2) (af (ah 3) (af (f2 aE (ah 2) (fC (.int 1))) (av))))) (bR (fL cA (af (iW [none,some 4,some 3] (bL (f2 aE (ah 2) (fC (.int 0)))) (gN 0) (fB (f2 xU (bw (ah 0) (aY) (bV (ah 2))) (ah 1))) (f2 bK (ah 0) (bw (f2 q5 (ah 1) (bw (ah 0) (aY) (bV (ah 2)))) (bV (ah 2)) (aY)))) (av)))))
abbrev gU:Qx:=top 19
theorem rp:bq ["_law_many","_law_rows_here","_law_found","_law_row_here"] ["_law_many","_law_rows_here"] (aA gU):=‹2›
noncomputable def aJ:cx:=aH (kP 2 tS) (aH (kC (bL (ah 1)) (gN 3) (aH (tU 2 (bw (ah 3) (aY) (bV (ah 0))) (ah 3)) (dX [3] cz))) (fZ 2 (bR (fL cA (af (iW [none,some 2] (bL (fL eW (af (fL o6 (af (ah 2) (av))) (av)))) (gN 0) (dZ) (f2 q5 (ah 1) (ah 0))) (av))))))
abbrev kB:Qx:=top 32
theorem xg:bq ["_law_one","_law_other","_law_tables","_law_view_here","_law_many","_law_wide","_law_brought","_law_there","_law_first","_law_last","_law_row_here"] ["_law_one","_law_other","_law_tables","_law_view_here"] (aA kB):=‹2›
noncomputable def fw:cx:=aH (bB 4 (fL ig (af (f2 aE (ah 0) (fC (.int 0))) (av)))) (aH (bB 5 (f2 bK (fL ig (af (f2 aE (ah 0) (fC (.int 0))) (av))) (fL ig (af (f2 aE (ah 0) (fC (.int 1))) (av))))) (aH (bB 6 (iW [none,some 4] (bL (ah 3)) (gN 0) (dZ) (bw (ah 0) (aY) (bV (ah 1))))) (aH (bB 7 (iW [none,some 4] (bL (f2 aE (ah 2) (fC (.int 1)))) (gN 0) (dZ) (bw (ah 0) (aY) (bV (ah 1))))) (aH (kP 8 (iW [none,some 5] (bL (ah 3)) (gN 0) (dZ) (bw (ah 0) (aY) (bV (ah 1))))) (aH (bB 9 (iW [none,some 4,some 5] (bL (ah 3)) (gN 0) (dZ) (f2 bK (bw (ah 0) (aY) (bV (ah 1))) (bw (ah 0) (bV (ah 2)) (aY))))) (dX [0,1,3,5] (aH (kC (bL (f2 aE (ah 2) (fC (.int 0)))) (gN 10) (jt (vw (fB (f2 fM (bw (ah 10) (aY) (bV (ah 4))) (ah 6))) (fB (f2 fM (bw (ah 10) (aY) (bV (ah 4))) (ah 7)))) (xA 8 eQ (af (ah 10) (av))) (cz))) (aH (bB 9 (f2 bK (ah 9) (iW [none,some 4,some 6] (bL (f2 aE (ah 2) (fC (.int 1)))) (gN 0) (fB (f2 fM (bw (ah 0) (aY) (bV (ah 1))) (ah 2))) (ah 0)))) (fZ 8 (bR (bT (af (fR (bi aJ 2 4) (af (ah 4) (af (ah 8) (av)))) (af (fR (bi aJ 2 4) (af (ah 4) (af (ah 9) (av)))) (av))))))))))))))
abbrev jc:Qx:=top 11
theorem uC:bq ["_law_x"] ["_law_x"] (aA jc):=‹2›
abbrev fF:Qx:=top 17
theorem sk:bq ["_law_kind_here","_law_x"] ["_law_kind_here","_law_x"] (aA fF):=‹2›
abbrev iT:Qx:=top 18
theorem vD:bq ["_law_form_here","_law_many","_law_head","_law_tail","_law_row_here","_law_name_here","_law_kind_here"] ["_law_form_here","_law_many","_law_head","_law_tail"] (aA iT):=‹2›
abbrev ia:Qx:=top 20
theorem uL:bq ["_law_form_here","_law_x","_law_many","_law_rows_here","_law_k"] ["_law_form_here","_law_x","_law_many"] (aA ia):=‹2›
noncomputable def fK(aD aL aQ:List D->R D):cx:=aH (jt (fB (f2 kJ (f2 aE (ah 0) (fC (.int 0))) (fC (.str "number")))) (bR (f2 bK (f2 aE (ah 0) (fC (.int 1))) (f2 cq (f2 jU (ah 1) (fC (.int 7))) (f2 bK (f2 AK (f2 aE (ah 0) (fC (.int 2))) (f2 aE (ah 0) (fC (.int 1)))) (fC (.int 1)))))) (cz)) (aH (jt (fB (f2 kJ (f2 aE (ah 0) (fC (.int 0))) (fC (.str "word")))) (bR (f2 aE (f2 aE (ah 0) (fC (.int 1))) (f2 cq (ah 1) (fL ig (af (f2 aE (ah 0) (fC (.int 1))) (av)))))) (cz)) (bR (fR aQ (af (f2 aE (ah 0) (fC (.int 1))) (af (f2 cW (ah 1) (fC (.int 3))) (af (fL pQ (af (f2 cq (ah 1) (fC (.int 3))) (af (fL y8 (af (f2 aE (ah 0) (fC (.int 2))) (av))) (av)))) (av)))))))
noncomputable def jV(aD aL aQ:List D->R D):cx:=aH (kP 4 (fJ (av))) (aH (kC (bL (f2 bK (f2 aE (ah 0) (fC (.int 0))) (f2 aE (ah 0) (fC (.int 1))))) (gT 2 (nH [5,6])) (aH (jt (lI [4] (fB (f2 qH (fL ig (af (ah 4) (av))) (ah 1)))) (aH (bB 2 (fR (bi aG 1 1) (af (ah 2) (av)))) (xA 4 eQ (af (fR aD (af (ah 6) (af (ah 2) (av)))) (av)))) (aH (bB 3 (fR (bi aG 1 1) (af (ah 3) (av)))) (xA 4 eQ (af (fR aD (af (ah 6) (af (ah 3) (av)))) (av))))) (dX [5,6] cz))) (fZ 4 (bR (fL cA (af (ah 4) (av))))))
noncomputable def ji(aD aL aQ:List D->R D):cx:=aH (kP 3 (fJ (av))) (aH (kC (fW (af (ah 2) (av))) (gN 4) (aH (bB 1 (fR (bi aG 1 1) (af (ah 1) (av)))) (aH (xA 3 eQ (af (fR aL (af (ah 0) (af (fC (.int 0)) (af (fC (.int 0)) (af (ah 1) (av)))))) (av))) (dX [4] cz)))) (fZ 3 (bR (fR (bi aJ 2 4) (af (fL ig (af (f2 aE (ah 0) (fC (.int 0))) (av))) (af (ah 3) (av)))))))
mutual
noncomputable def aD:Nat->List D->R D
 |0=>λ_=>un
 |n+1=>bi (fK (aD n) (aL n) (aQ n)) 2 2
noncomputable def aL:Nat->List D->R D
 |0=>λ_=>un
 |n+1=>bi (jV (aD n) (aL n) (aQ n)) 4 7
noncomputable def aQ:Nat->List D->R D
 |0=>λ_=>un
 |n+1=>bi (ji (aD n) (aL n) (aQ n)) 3 5
end
theorem eA(n:Nat):aD (n+1)=bi (fK (aD n) (aL n) (aQ n)) 2 2:=by rw[aD]
theorem ip:∀n:Nat,Ar 2 (aD n)
 |0=>λ_ h=>absurd (by rw[aD]) h
 |n+1=>by rw[eA];exact aU
theorem iq(n:Nat):aL (n+1)=bi (jV (aD n) (aL n) (aQ n)) 4 7:=by rw[aL]
theorem gW:∀n:Nat,Ar 4 (aL n)
 |0=>λ_ h=>absurd (by rw[aL]) h
 |n+1=>by rw[iq];exact aU
theorem gR(n:Nat):aQ (n+1)=bi (ji (aD n) (aL n) (aQ n)) 3 5:=by rw[aQ]
theorem iO:∀n:Nat,Ar 3 (aQ n)
 |0=>λ_ h=>absurd (by rw[aQ]) h
 |n+1=>by rw[gR];exact aU
abbrev gV:Qx:=top 27
theorem rR:bq ["_law_fields","_law_x"] ["_law_fields","_law_x"] (aA gV):=‹2›
noncomputable def bG:cx:=bR (fR (aL 12) (af (bT (af (fL cA (af (ah 0) (av))) (af (bT (av)) (av)))) (af (fC (.int 0)) (af (fC (.int 0)) (af (ah 1) (av))))))
abbrev kc:Qx:=top 30
theorem xn:bq ["_law_fields","_law_key","_law_field","_law_value_here","_law_kind_here"] ["_law_fields","_law_key"] (aA kc):=‹2›
def gA:cx:=aH (kC (AO (af (ah 0) (af (ah 1) (av)))) (gT 2 (nH [2,3])) (aH (bB 4 (f2 aE (ah 2) (fC (.int 1)))) (aH (jt (vw (fB (f2 kJ (f2 aE (ah 4) (fC (.int 0))) (fC (.str "number")))) (BG (fB (f2 qH (ah 3) (f2 aE (ah 4) (fC (.int 1))))) (fB (f2 KZ (ah 3) (f2 aE (ah 4) (fC (.int 2))))))) (bR (fC (.bl false))) (cz)) (aH (jt (vw (fB (f2 kJ (f2 aE (ah 4) (fC (.int 0))) (fC (.str "word")))) (fB (f2 fM (ah 3) (f2 aE (ah 4) (fC (.int 1)))))) (bR (fC (.bl false))) (cz)) (dX [2,3,4] cz))))) (bR (fC (.bl true)))
abbrev fU:Qx:=top 24
theorem p9:bq ["_law_one","_law_other"] ["_law_one","_law_other"] (aA fU):=‹2›
def dB:cx:=aH (jt (fB (f2 kJ (f2 aE (ah 0) (fC (.int 0))) (fC (.str "number")))) (bR (bT (af (fC (.str "number")) (af (fL pQ (af (f2 aE (ah 0) (fC (.int 1))) (af (f2 aE (ah 1) (fC (.int 1))) (av)))) (af (fL sY (af (f2 aE (ah 0) (fC (.int 2))) (af (f2 aE (ah 1) (fC (.int 2))) (av)))) (av)))))) (cz)) (bR (bT (af (fC (.str "word")) (af (fL cA (af (iW [none,some 1] (bL (f2 aE (ah 0) (fC (.int 1)))) (gN 0) (fB (f2 Df (ah 0) (f2 aE (ah 1) (fC (.int 1))))) (ah 0)) (av))) (av)))))
abbrev dI:Qx:=top 26
theorem mX:bq ["_law_one","_law_other","_law_found","_law_field","_law_more"] ["_law_one","_law_other"] (aA dI):=‹2›
def bJ:cx:=aH (kP 2 (fJ (av))) (aH (kC (AO (af (f2 aE (ah 0) (fC (.int 0))) (af (f2 aE (ah 1) (fC (.int 0))) (av)))) (gT 2 (nH [3,4])) (aH (xA 2 eQ (af (bT (af (f2 aE (ah 3) (fC (.int 0))) (af (fR (bi dB 2 2) (af (f2 aE (ah 3) (fC (.int 1))) (af (f2 aE (ah 4) (fC (.int 1))) (av)))) (av)))) (av))) (dX [3,4] cz))) (fZ 2 (bR (fL cA (af (ah 2) (av))))))
abbrev jd:Qx:=top 31
theorem uZ:bq ["_law_one","_law_other","_law_tables","_law_x","_law_both_key","_law_many","_law_keys","_law_rows_here","_law_k","_law_key"] ["_law_one","_law_other","_law_tables","_law_x"] (aA jd):=‹2›
noncomputable def h7:cx:=aH (bB 4 (fR (bi bJ 2 5) (af (ah 0) (af (ah 1) (av))))) (aH (bB 5 (fL ig (af (f2 aE (ah 0) (fC (.int 0))) (av)))) (aH (bB 6 (iW [none,some 5] (bL (f2 bK (f2 aE (ah 2) (fC (.int 0))) (f2 aE (ah 2) (fC (.int 1))))) (gN 0) (dZ) (bw (ah 0) (aY) (bV (ah 1))))) (aH (kP 7 (fJ (av))) (dX [2] (aH (kC (fW (af (f2 cq (ah 3) (fC (.int 9))) (av))) (gN 8) (aH (bB 3 (fR (bi aG 1 1) (af (f2 bK (ah 3) (ah 8)) (av)))) (aH (bB 9 (fR (bi bG 2 2) (af (ah 4) (af (f2 aE (fJ (af (ah 3) (af (f2 cq (ah 3) (fC (.int 7))) (av)))) (f2 cq (f2 cW (ah 3) (fC (.int 2))) (fC (.int 2)))) (av))))) (aH (jt (vw (fB (f2 kJ (f2 cq (ah 3) (fC (.int 2))) (fC (.int 1)))) (fB (f2 BC (ah 6) (fJ (av))))) (bB 9 (f2 aE (ah 6) (f2 cq (f2 cW (ah 3) (fC (.int 4))) (fL ig (af (ah 6) (av)))))) (cz)) (aH (jt (fh (fR (bi gA 2 5) (af (ah 4) (af (ah 9) (av))))) (xA 7 eQ (af (f2 bK (ah 9) (fR (bi bG 2 2) (af (f2 bK (f2 aE (ah 0) (fC (.int 1))) (f2 aE (ah 1) (fC (.int 1)))) (af (fR (bi aG 1 1) (af (ah 3) (av))) (av))))) (av))) (cz)) (dX [8,9] cz)))))) (fZ 7 (bR (fR (bi aJ 2 4) (af (ah 5) (af (ah 7) (av)))))))))))
abbrev fY:Qx:=top 10
theorem p4:bq ["_law_script","_law_k"] ["_law_script","_law_k"] (aA fY):=‹2›
abbrev jh:Qx:=top 12
theorem uI:bq ["_law_script","_law_k","_law_x"] ["_law_script","_law_k"] (aA jh):=‹2›
abbrev df:Qx:=top 29
theorem kN:bq ["_law_one","_law_other","_law_script","_law_start","_law_most","_law_both_key","_law_rows_here","_law_k","_law_x","_law_way","_law_y","_law_key"] ["_law_one","_law_other","_law_script","_law_start","_law_most"] (aA df):=‹2›
noncomputable def cG:cx:=aH (bB 5 (fR (bi bJ 2 5) (af (ah 0) (af (ah 1) (av))))) (aH (pL 6) (aH (kC (qi (af (ah 3) (af (fL sY (af (fL pQ (af (fL ig (af (ah 2) (av))) (af (f2 bK (ah 3) (fC (.int 5))) (av)))) (af (f2 bK (ah 3) (ah 4)) (av)))) (av)))) (gN 7) (aH (bB 8 (fR (bi cH 2 3) (af (ah 2) (af (ah 7) (av))))) (aH (bB 9 (f2 cq (ah 8) (fC (.int 5)))) (aH (bB 10 (fR (bi aG 1 1) (af (ah 8) (av)))) (aH (bB 11 (fR (bi bG 2 2) (af (f2 aE (fJ (af (f2 aE (ah 0) (fC (.int 0))) (af (f2 aE (ah 1) (fC (.int 0))) (af (ah 5) (af (ah 5) (af (ah 5) (av))))))) (ah 9)) (af (f2 aE (fJ (af (ah 10) (af (f2 cq (ah 10) (fC (.int 7))) (av)))) (f2 cq (f2 cW (ah 8) (fC (.int 5))) (fC (.int 2)))) (av))))) (aH (jt (fB (f2 Df (ah 9) (bT (af (fC (.int 0)) (af (fC (.int 2)) (af (fC (.int 4)) (av))))))) (pN 6 0 (f2 bK (ah 11) (fR (bi bG 2 2) (af (f2 aE (ah 0) (fC (.int 1))) (af (f2 bK (ah 10) (fC (.int 1))) (av)))))) (cz)) (aH (jt (fB (f2 Df (ah 9) (bT (af (fC (.int 1)) (af (fC (.int 3)) (af (fC (.int 4)) (av))))))) (pN 6 1 (f2 bK (ah 11) (fR (bi bG 2 2) (af (f2 aE (ah 1) (fC (.int 1))) (af (f2 bK (ah 10) (fC (.int 2))) (av)))))) (cz)) (dX [7,8,9,10,11] cz)))))))) (we 6 (bR (bT (af (fR (bi aJ 2 4) (af (fL ig (af (f2 aE (ah 0) (fC (.int 0))) (av))) (af (f2 aE (ah 6) (fC (.int 0))) (av)))) (af (fR (bi aJ 2 4) (af (fL ig (af (f2 aE (ah 0) (fC (.int 0))) (av))) (af (f2 aE (ah 6) (fC (.int 1))) (av)))) (av))))))))
abbrev jf:Qx:=top 13
theorem vj:bq ["_law_base","_law_k","_law_letters","_law_size","_law_name_here","_law_j","_law_step"] ["_law_base","_law_k"] (aA jf):=‹2›
abbrev iC:Qx:=top 14
theorem sB:bq ["_law_x","_law_low","_law_letters","_law_one","_law_other","_law_some","_law_kept","_law_k"] ["_law_x"] (aA iC):=‹2›
abbrev hZ:Qx:=top 15
theorem vA:bq ["_law_x","_law_base","_law_deep","_law_inner"] ["_law_x","_law_base","_law_deep"] (aA hZ):=‹2›
abbrev hJ:Qx:=top 16
theorem uV:bq ["_law_x","_law_base","_law_start","_law_many","_law_more","_law_deep","_law_key","_law_rest","_law_k"] ["_law_x","_law_base","_law_start","_law_many","_law_more","_law_deep"] (aA hJ):=‹2›
noncomputable def gY(bg aN:List D->R D):cx:=aH (jt (BG (fB (f2 kJ (ah 2) (fC (.int 0)))) (fB (f2 qH (f2 cq (ah 0) (fC (.int 3))) (fC (.int 2))))) (bR (fR (bi cR 1 8) (af (f2 cW (ah 0) (fC (.int 3))) (av)))) (cz)) (aH (bB 3 (fR aN (af (f2 cW (ah 0) (fC (.int 3))) (af (ah 1) (af (f2 cq (f2 cW (ah 0) (fC (.int 36))) (fC (.int 12))) (af (f2 bK (fC (.int 1)) (f2 cq (f2 cW (ah 0) (fC (.int 3))) (fC (.int 2)))) (af (f2 cq (f2 cW (ah 0) (fC (.int 6))) (fC (.int 3))) (af (f2 AK (ah 2) (fC (.int 1))) (av))))))))) (bR (bT (af (fC (.str "rows")) (af (ah 3) (af (f2 kJ (f2 cq (f2 cW (ah 0) (fC (.int 18))) (fC (.int 2))) (fC (.int 1))) (av)))))))
noncomputable def i3(bg aN:List D->R D):cx:=aH (kP 6 (fJ (av))) (aH (kP 7 (fJ (av))) (aH (kC (fW (af (f2 bK (ah 3) (ah 4)) (av))) (gN 8) (aH (bB 0 (fR (bi aG 1 1) (af (ah 0) (av)))) (aH (jt (fB (f2 qH (ah 8) (ah 3))) (xA 6 eQ (af (bT (af (fR (bi bU 2 7) (af (ah 1) (af (f2 bK (ah 2) (ah 8)) (av)))) (af (fR (bi cR 1 8) (af (ah 0) (av))) (av)))) (av))) (xA 7 eQ (af (bT (af (fR (bi bU 2 7) (af (ah 1) (af (f2 bK (ah 2) (ah 8)) (av)))) (af (fR bg (af (ah 0) (af (ah 1) (af (ah 5) (av))))) (av)))) (av)))) (dX [8] cz)))) (fZ 7 (fZ 6 (bR (bT (af (fL cA (af (ah 6) (av))) (af (fL cA (af (ah 7) (av))) (av)))))))))
mutual
noncomputable def bg:Nat->List D->R D
 |0=>λ_=>un
 |n+1=>bi (gY (bg n) (aN n)) 3 4
noncomputable def aN:Nat->List D->R D
 |0=>λ_=>un
 |n+1=>bi (i3 (bg n) (aN n)) 6 9
end
theorem eM(n:Nat):bg (n+1)=bi (gY (bg n) (aN n)) 3 4:=by rw[bg]
theorem lr:∀n:Nat,Ar 3 (bg n)
 |0=>λ_ h=>absurd (by rw[bg]) h
 |n+1=>by rw[eM];exact aU
theorem gH(n:Nat):aN (n+1)=bi (i3 (bg n) (aN n)) 6 9:=by rw[aN]
theorem fV:∀n:Nat,Ar 6 (aN n)
 |0=>λ_ h=>absurd (by rw[aN]) h
 |n+1=>by rw[gH];exact aU
abbrev eB:Qx:=top 22
theorem nE:bq ["_law_x","_law_letters","_law_one","_law_other","_law_kept","_law_word"] ["_law_x"] (aA eB):=‹2›
noncomputable def dj:cx:=aH (bB 1 (fC (.str "abcdefghijklmnopqrstuvwxyz"))) (aH (bB 2 (f2 aE (ah 1) (f2 cq (ah 0) (fC (.int 26))))) (aH (bB 3 (f2 aE (ah 1) (f2 cq (f2 cW (ah 0) (fC (.int 26))) (fC (.int 26))))) (aH (kP 4 tS) (dX [0,1] (aH (kC (bL (fJ (af (fC (.str "")) (af (ah 2) (af (ah 3) (af (f2 bK (ah 2) (ah 3)) (af (f2 bK (ah 3) (ah 2)) (af (f2 rJ (ah 2) (fC (.int 8))) (af (f2 bK (ah 2) (ah 2)) (af (f2 rJ (ah 3) (fC (.int 3))) (av))))))))))) (gN 5) (aH (mY 4 (ah 5) (fC (.bl true))) (dX [5] cz))) (fZ 4 (bR (fL eW (af (fL kU (af (ah 4) (av))) (av))))))))))
abbrev eO:Qx:=top 23
theorem nJ:bq ["_law_x","_law_y","_law_low","_law_wide","_law_far","_law_one","_law_other","_law_some","_law_spare"] ["_law_x"] (aA eO):=‹2›
noncomputable def dA:cx:=aH (bB 1 (fR (bi aG 1 1) (af (ah 0) (av)))) (aH (bB 2 (f2 aE (fJ (af (fC (.int 0)) (af (BX (fC (.int 3))) (af (f2 AK (fC (.int 0)) (f2 cq (f2 jU (ah 1) (fC (.int 7))) (f2 jU (fC (.int 10)) (fC (.int 59))))) (af (f2 cq (f2 jU (ah 1) (fC (.int 7))) (f2 jU (fC (.int 10)) (fC (.int 59)))) (av)))))) (f2 cq (f2 cW (ah 0) (fC (.int 3))) (fC (.int 4))))) (aH (bB 3 (f2 aE (fJ (af (fC (.int 0)) (af (fC (.int 1)) (af (fC (.int 6)) (af (f2 jU (fC (.int 10)) (fC (.int 59))) (av)))))) (f2 cq (f2 cW (ah 0) (fC (.int 12))) (fC (.int 4))))) (aH (bB 4 (f2 cq (f2 jU (ah 1) (fC (.int 7))) (f2 bK (ah 3) (fC (.int 1))))) (aH (bB 5 (bT (af (fC (.str "number")) (af (ah 2) (af (f2 bK (ah 2) (ah 3)) (av)))))) (aH (bB 6 (bT (af (fC (.str "number")) (af (f2 bK (ah 2) (ah 4)) (af (f2 bK (f2 bK (ah 2) (ah 4)) (f2 aE (fJ (af (fC (.int 0)) (af (fC (.int 2)) (af (fC (.int 9)) (af (f2 jU (fC (.int 10)) (fC (.int 59))) (av)))))) (f2 cq (f2 cW (ah 0) (fC (.int 48))) (fC (.int 4))))) (av)))))) (aH (jt (fB (f2 kJ (f2 cq (ah 0) (fC (.int 3))) (fC (.int 2)))) (aH (bB 7 (fR (bi dj 1 6) (af (f2 cW (ah 0) (fC (.int 3))) (av)))) (aH (bB 8 (f2 aE (ah 7) (f2 cq (ah 1) (fL ig (af (ah 7) (av)))))) (aH (bB 5 (bT (af (fC (.str "word")) (af (fL cA (af (iW [none,none,some 8,some 1] (gJ (af (ah 7) (av))) (gT 2 (nH [0,1])) (BG (fB (f2 kJ (ah 1) (ah 2))) (fB (f2 kJ (f2 sd (f2 yt (f2 cW (ah 3) (fC (.int 9))) (ah 0)) (fC (.int 1))) (fC (.int 1))))) (ah 1)) (av))) (av))))) (bB 6 (bT (af (fC (.str "word")) (af (fL cA (af (iW [none,none,some 8,some 1] (gJ (af (ah 7) (av))) (gT 2 (nH [0,1])) (BG (fB (f2 kJ (ah 1) (ah 2))) (fB (f2 kJ (f2 sd (f2 yt (f2 cW (ah 3) (fC (.int 3000))) (ah 0)) (fC (.int 1))) (fC (.int 1))))) (ah 1)) (av))) (av)))))))) (cz)) (aH (jt (fB (f2 kJ (f2 cq (f2 cW (ah 0) (fC (.int 200))) (fC (.int 2))) (fC (.int 1)))) (bR (bT (af (ah 6) (af (ah 5) (av))))) (cz)) (bR (bT (af (ah 5) (af (ah 6) (av))))))))))))
abbrev e6:Qx:=top 25
theorem o4:bq ["_law_x","_law_base","_law_many","_law_one","_law_other","_law_k","_law_kinds"] ["_law_x","_law_base","_law_many"] (aA e6):=‹2›
noncomputable def dP:cx:=aH (kP 3 (fJ (av))) (aH (kP 4 (fJ (av))) (aH (kC (fW (af (ah 2) (av))) (gN 5) (aH (bB 0 (fR (bi aG 1 1) (af (ah 0) (av)))) (aH (bB 6 (fR (bi dA 1 9) (af (ah 0) (av)))) (aH (xA 3 eQ (af (bT (af (fR (bi bU 2 7) (af (ah 1) (af (ah 5) (av)))) (af (f2 aE (ah 6) (fC (.int 0))) (av)))) (av))) (aH (xA 4 eQ (af (bT (af (fR (bi bU 2 7) (af (ah 1) (af (ah 5) (av)))) (af (f2 aE (ah 6) (fC (.int 1))) (av)))) (av))) (dX [5,6] cz)))))) (fZ 4 (fZ 3 (bR (bT (af (fL cA (af (ah 3) (av))) (af (fL cA (af (ah 4) (av))) (av)))))))))
abbrev dr:Qx:=top 28
theorem kZ:bq ["_law_script","_law_x","_law_base","_law_keys","_law_deep","_law_more","_law_first","_law_last"] ["_law_script"] (aA dr):=‹2›
noncomputable def cN:cx:=aH (bB 1 (fR (bi cH 2 3) (af (ah 0) (af (fC (.int 0)) (av))))) (aH (bB 2 (f2 cq (f2 nQ (fR (bi dD 2 2) (af (ah 0) (af (fC (.int 1)) (av)))) (fC (.int 48271))) (fC (.int 2147483647)))) (aH (bB 3 (fR (bi dP 3 7) (af (fR (bi aG 1 1) (af (ah 1) (av))) (af (ah 2) (af (f2 aE (fJ (af (fC (.int 1)) (af (fC (.int 2)) (af (fC (.int 1)) (af (fC (.int 3)) (af (fC (.int 2)) (af (fC (.int 1)) (af (fC (.int 2)) (af (f2 bK (fC (.int 1)) (f2 cq (f2 cW (ah 1) (fC (.int 64))) (fC (.int 8)))) (av)))))))))) (f2 cq (ah 1) (fC (.int 8)))) (av)))))) (aH (bB 4 (f2 aE (fJ (af (fC (.int 0)) (af (fC (.int 0)) (af (fC (.int 1)) (af (fC (.int 2)) (av)))))) (f2 cq (f2 cW (ah 1) (fC (.int 8))) (fC (.int 4))))) (aH (bB 5 (fJ (af (f2 cq (f2 cW (ah 1) (fC (.int 512))) (fC (.int 4))) (af (f2 cq (f2 cW (ah 1) (fC (.int 2048))) (fC (.int 4))) (av))))) (aH (jt (fB (f2 kJ (f2 cq (f2 cW (ah 1) (fC (.int 32))) (fC (.int 8))) (fC (.int 3)))) (aH (bB 5 (fJ (af (f2 cq (f2 cW (ah 1) (fC (.int 512))) (fC (.int 9))) (af (f2 AK (fC (.int 8)) (f2 cq (f2 cW (ah 1) (fC (.int 512))) (fC (.int 9)))) (av))))) (bB 4 (fC (.int 0)))) (cz)) (aH (bB 6 (f2 aE (fR (aN 12) (af (f2 bK (fR (bi aG 1 1) (af (ah 1) (av))) (fC (.int 1))) (af (ah 2) (af (fC (.int 8)) (af (fC (.int 0)) (af (f2 aE (ah 5) (fC (.int 0))) (af (ah 4) (av)))))))) (fC (.int 1)))) (aH (bB 7 (f2 aE (fR (aN 12) (af (f2 bK (fR (bi aG 1 1) (af (ah 1) (av))) (fC (.int 2))) (af (ah 2) (af (fC (.int 16)) (af (fC (.int 0)) (af (f2 aE (ah 5) (fC (.int 1))) (af (ah 4) (av)))))))) (fC (.int 1)))) (bR (bT (af (bT (af (f2 aE (ah 3) (fC (.int 0))) (af (ah 6) (av)))) (af (bT (af (f2 aE (ah 3) (fC (.int 1))) (af (ah 7) (av)))) (av))))))))))))
abbrev qO:Qx:=top 33
theorem GD:bq ["_law_script","_law_one","_law_other","_law_tables","_law_view_here","_law_pair","_law_put","_law_bare"] ["_law_script"] (aA qO):=‹2›
noncomputable def rd:cx:=aH (DS (fR (bi cN 1 8) (af (ah 0) (av))) (gT 2 (nH [1,2]))) (aH (bB 3 (fR (bi cG 5 12) (af (ah 1) (af (ah 2) (af (ah 0) (af (fC (.int 2)) (af (fC (.int 40)) (av)))))))) (aH (bB 4 (fR (bi h7 4 10) (af (ah 1) (af (ah 2) (af (ah 3) (af (fR (bi aG 1 1) (af (fR (bi cH 2 3) (af (ah 0) (af (fC (.int 2)) (av)))) (av))) (av))))))) (aH (bB 5 (fC (.obj "Join" [] []))) (aH (bB 6 (ga "put" [("Pair",(bi fe 4 4)),("Join",(bi dq 4 10))] (ah 5) (af (bT (af (ah 1) (af (ah 2) (av)))) (af (ah 3) (af (ah 4) (av)))))) (aH (jt (vx (fh (fR (bb 12) (af (ah 6) (af (fR (bi fw 4 11) (af (ah 1) (af (ah 2) (af (ah 3) (af (ah 4) (av)))))) (av)))))) (bR (fC (.bl false))) (cz)) (aH (jt (vx (fh (fR (bb 12) (af (ga "got" [("Pair",(bi fj 3 3)),("Join",(bi dH 3 5))] (ah 5) (af (bT (af (ah 1) (af (ah 2) (av)))) (af (ah 6) (av)))) (af (ah 4) (av)))))) (bR (fC (.bl false))) (cz)) (aH (bB 7 (ga "put" [("Pair",(bi fe 4 4)),("Join",(bi dq 4 10))] (ah 5) (af (bT (af (ah 1) (af (ah 2) (av)))) (af (bT (af (bT (av)) (af (bT (av)) (av)))) (af (ah 4) (av)))))) (aH (jt (vx (fh (fR (bb 12) (af (ah 7) (af (fR (bi fw 4 11) (af (ah 1) (af (ah 2) (af (bT (af (bT (av)) (af (bT (av)) (av)))) (af (ah 4) (av)))))) (av)))))) (bR (fC (.bl false))) (cz)) (aH (jt (vx (fh (fR (bb 12) (af (ga "got" [("Pair",(bi fj 3 3)),("Join",(bi dH 3 5))] (ah 5) (af (bT (af (ah 1) (af (ah 2) (av)))) (af (ah 7) (av)))) (af (ah 4) (av)))))) (bR (fC (.bl false))) (cz)) (bR (fR (bb 12) (af (ga "put" [("Pair",(bi fe 4 4)),("Join",(bi dq 4 10))] (ah 5) (af (bT (af (ah 1) (af (ah 2) (av)))) (af (ah 3) (af (ga "got" [("Pair",(bi fj 3 3)),("Join",(bi dH 3 5))] (ah 5) (af (bT (af (ah 1) (af (ah 2) (av)))) (af (ah 3) (av)))) (av))))) (af (ah 3) (av))))))))))))))
theorem KC:(["row","many"]:List Str).Nodup:=by decide +kernel
theorem Kw:(["row","many","taken"]:List Str).Nodup:=by decide +kernel
theorem IQ:(["row","many","others"]:List Str).Nodup:=by decide +kernel
theorem K3:(["row","end"]:List Str).Nodup:=by decide +kernel
theorem Ko:(["row","many","end"]:List Str).Nodup:=by decide +kernel
theorem La:(["row","others","many"]:List Str).Nodup:=by decide +kernel
theorem JW:(["_law_key","_law_found"]:List Str).Nodup:=by decide +kernel
theorem HZ:(["_law_row_here","_law_many"]:List Str).Nodup:=by decide +kernel
theorem HM:(["_law_row_here","_law_many"]:List Str).Nodup:=by decide +kernel
theorem IZ:(["_law_row_here","_law_wide"]:List Str).Nodup:=by decide +kernel
theorem EX:(["_law_row_here","_law_many","_law_wide"]:List Str).Nodup:=by decide +kernel
theorem IY:(["_law_row_here","_law_many","_law_brought"]:List Str).Nodup:=by decide +kernel
theorem IK:(["_law_word","_law_other"]:List Str).Nodup:=by decide +kernel
theorem EV:(["_law_row_here","_law_many"]:List Str).Nodup:=by decide +kernel
theorem EL:(["_law_k","_law_word","_law_spare","_law_y"]:List Str).Nodup:=by decide +kernel
theorem EG:(["_law_k","_law_word","_law_spare","_law_y"]:List Str).Nodup:=by decide +kernel
section
variable{P:Qi}{w:Qh}{K:OZ}{mg:Str->Option Qg}{base:Ql}[bc]
theorem su{n:Nat}{f:Qj}(bQ:mg "isinstance"=none)(qS:mg "str"=none)(kA:mg "bool"=none)(gX:mg "int"=none)(aK:mg "tuple"=none)(bN:mg "len"=none)(kK:mg "zip"=none){bb:List D->R D}(cP:Callee P w K mg base (0+n) "_law_alike" ["_law_found","_law_due_here"] bb)(L__law_alike:Ar 2 bb):cV P w K mg base (0+n) ["_law_found","_law_due_here","_law_one","_law_other"] "_law_alike" fN f (dF bb):=
 ⟨λcdv A outer s H E hr hp=>(ao (ca (dE (iz wH rfl bQ rfl qS P4 (aa (xv 1)))) (az (aW (qx (iz wH rfl bQ rfl qS P4 (aa (xv 0))) (vh (qg (cX hr.units) au (aa (xv 0)) (aa (xv 1)) (cf _)))))) (aV)) (ao (ca (De (pA (dE (iz mE rfl bQ rfl kA P5 (aa (xv 1)))) (mG (dE (iz mE rfl bQ rfl kA P5 (aa (xv 0))))))) (az (aW (qx (iz mE rfl bQ rfl kA P5 (aa (xv 1))) (qx (iz mE rfl bQ rfl kA P5 (aa (xv 0))) (vh (qg (cX hr.units) au (aa (xv 0)) (aa (xv 1)) (cf _))))))) (aV)) (ao (ca (dE (iz w6 rfl bQ rfl gX P6 (aa (xv 1)))) (az (aW (qx (iz w6 rfl bQ rfl gX P6 (aa (xv 0))) (vh (qg (cX hr.units) au (aa (xv 0)) (aa (xv 1)) (cf _)))))) (aV)) (ao (ca (De (pA (mO (dE (iz yA rfl bQ rfl aK P7 (aa (xv 0))))) (mG (bv (BH hr.units) au (bu bY rfl bN PySem.boot_len (ae (aa (xv 0)) (aj))) (bu bY rfl bN PySem.boot_len (ae (aa (xv 1)) (aj))) (cf _))))) (az (aW (gK))) (aV)) (ao (dY hp rfl (vf rfl kK (ae (aa (xv 0)) (ae (aa (xv 1)) (aj)))) (kD (g:=nH [2,3]) rfl (cI (aP (i:=2) sK.nd rfl ‹1›) (cI (aP (i:=3) sK.nd rfl ‹1›) (iQ)))) (ao (ca (mO (dE (ax cP L__law_alike hr ‹0› (ae (aa (xv 2)) (ae (aa (xv 3)) (aj)))))) (az (aW (gK))) (aV)) (cj [2,3] aV))) (az (aW (gK))))))))⟩
theorem lH{f__law_alike:Qj}{fd__law_alike:QR}(F__law_alike:xC K "_law_alike" "_law_alike" fN f__law_alike fd__law_alike)(j9:Binds K fd__law_alike ["_law_found","_law_due_here"] [])(m__law_alike:mg "_law_alike"=some (.ref f__law_alike))(bQ:mg "isinstance"=none)(qS:mg "str"=none)(kA:mg "bool"=none)(gX:mg "int"=none)(aK:mg "tuple"=none)(bN:mg "len"=none)(kK:mg "zip"=none):∀n:Nat,Callee P w K mg base (0+n) "_law_alike" ["_law_found","_law_due_here"] (bb n)
 |0=>by
  rw[bb];exact fE 0 F__law_alike j9 m__law_alike
 |n+1=>by
  have ih:=lH F__law_alike j9 m__law_alike bQ qS kA gX aK bN kK n;rw[jg];exact bA F__law_alike j9 m__law_alike sK (cV.ok (su bQ qS kA gX aK bN kK ih (cZ n)))
theorem wN{f:Qj}:cV P w K mg base 0 ["self","forms","tables","view"] "Pair.put" kG f fe:=
 ⟨λcdv A outer s H E hr hp=>(az (aW (bo (ae (aa (xv 3)) (ae (aB (aa (xv 2)) (ai) (λ_ _=>rfl)) (aj))))))⟩
theorem uG{f cL T:Qj}(aK:mg "tuple"=none)(dR:mg "sorted"=none)(lamB:Aw mg base cL T)(lamC:ut K f (.ref cL))(lamT:∀H,bc.tab H->H T=some (.ext (ow T ⟨6,34,6,56⟩ ((("sorted_by":Str)++".<locals>.")++"<lambda>")))):B7 P w K mg base 0 ["many","rows"] "sorted_by" i9 f gZ:=
 ⟨fun cdv A outer s H E hc hr hp=>by
  obtain rfl:=hc.one lamC;exact(az (aW (bD bX rfl aK P7 (ae (AA (j:=0) hr rfl dR lamB rfl lamT (aa (xv 1)) rfl rfl (Or.inr (Or.inl rfl)) rfl rfl rfl (λ_ _ _=>rfl) rfl rfl rfl (by decide) rfl rfl rfl rfl rfl) (aj)))))⟩
theorem A1{f:Qj}(yv:mg "dict"=none):cV P w K mg base 0 ["many","rows"] "by_key" n9 f fS:=
 ⟨λcdv A outer s H E hr hp=>(az (aW (bD (yC rfl hr.units) rfl yv PyProof.Rows.boot_dict (ae (fm (N:=["row","many"]) (ix:=[none,some 0]) rfl (.of rfl) (bS rfl) (cn (aa (xv 1))) ⟨λ_ _ _ _ _ _=>⟨aP (i:=0) KC rfl (Or.inl rfl),dg,bo (ae (bx (aa (xv 0)) (bH) (bI (aa (xv 1)))) (ae (aa (xv 0)) (aj)))⟩⟩) (aj)))))⟩
theorem wf{f:Qj}(fX:Callee P w K mg base 1 "by_key" ["many","rows"] (bi fS 2 2))(lD:Callee P w K mg base 1 "sorted_by" ["many","rows"] (bi gZ 2 2))(ik:mg "list"=none):cV P w K mg base 1 ["many","rows","others","taken"] "standing" kE f gF:=
 ⟨λcdv A outer s H E hr hp=>(ao (aC (i:=3) wt.nd rfl ‹1› (ax fX aU hr ‹0› (ae (aa (xv 0)) (ae (aa (xv 1)) (aj))))) (az (aW (ax lD aU hr ‹0› (ae (aa (xv 0)) (ae (aq aR au (bD yg rfl ik P8 (ae (aa (xv 1)) (aj))) (fm (N:=["row","many","taken"]) (ix:=[none,some 0,some 3]) rfl (.of rfl) (bS rfl) (cn (aa (xv 2))) ⟨λ_ _ _ _ _ _=>⟨aP (i:=0) Kw rfl (Or.inl rfl),ic (bv (oP hr.units) au (bx (aa (xv 0)) (bH) (bI (aa (xv 1)))) (aa (xv 2)) rfl),aa (xv 0)⟩⟩)) (aj)))))))⟩
theorem xl{f:Qj}(fX:Callee P w K mg base 1 "by_key" ["many","rows"] (bi fS 2 2))(j8:Callee P w K mg base 2 "standing" ["many","rows","others"] (bi gF 3 4))(bN:mg "len"=none):cV P w K mg base 2 ["self","forms","tables","view","many","end","others","hidden","one","other"] "Join.put" jX f dq:=
 ⟨λcdv A outer s H E hr hp=>(ao (aC (i:=4) wZ.nd rfl ‹1› (bu bY rfl bN PySem.boot_len (ae (aB (aB (aa (xv 1)) (ai) (λ_ _=>rfl)) (ai) (λ_ _=>rfl)) (aj)))) (ao (aC (i:=5) wZ.nd rfl ‹1› (aq aR au (aa (xv 4)) (bu bY rfl bN PySem.boot_len (ae (aB (aB (aa (xv 1)) (ai) (λ_ _=>rfl)) (ai) (λ_ _=>rfl)) (aj))))) (ao (aC (i:=6) wZ.nd rfl ‹1› (ax fX aU hr ‹0› (ae (aa (xv 4)) (ae (aB (aa (xv 2)) (ai) (λ_ _=>rfl)) (aj))))) (ao (by first|exact qB (i:=7) wZ.nd rfl ‹1› (N:=["row","many","others"]) (ix:=[none,some 4,some 6]) rfl (.of rfl) (bS rfl) (cn (aB (aa (xv 2)) (ai) (λ_ _=>rfl))) ⟨λ_ _ _ _ _ _=>⟨aP (i:=0) IQ rfl (Or.inl rfl),ic (bv (oP hr.units) au (bx (aa (xv 0)) (bH) (bI (aa (xv 1)))) (aa (xv 2)) rfl),aa (xv 0)⟩⟩|exact aC (i:=7) wZ.nd rfl ‹1› (fm (N:=["row","many","others"]) (ix:=[none,some 4,some 6]) rfl (.of rfl) (bS rfl) (cn (aB (aa (xv 2)) (ai) (λ_ _=>rfl))) ⟨λ_ _ _ _ _ _=>⟨aP (i:=0) IQ rfl (Or.inl rfl),ic (bv (oP hr.units) au (bx (aa (xv 0)) (bH) (bI (aa (xv 1)))) (aa (xv 2)) rfl),aa (xv 0)⟩⟩)) (ao (aC (i:=8) wZ.nd rfl ‹1› (ax j8 aU hr ‹0› (ae (aa (xv 4)) (ae (fm (N:=["row","end"]) (ix:=[none,some 5]) rfl (.of rfl) (bS rfl) (cn (aa (xv 3))) ⟨λ_ _ _ _ _ _=>⟨aP (i:=0) K3 rfl (Or.inl rfl),dg,bx (aa (xv 0)) (bH) (bI (aa (xv 1)))⟩⟩) (ae (aa (xv 7)) (aj)))))) (ao (aC (i:=9) wZ.nd rfl ‹1› (ax j8 aU hr ‹0› (ae (aa (xv 4)) (ae (fm (N:=["row","many","end"]) (ix:=[none,some 4,some 5]) rfl (.of rfl) (bS rfl) (cn (aa (xv 3))) ⟨λ_ _ _ _ _ _=>⟨aP (i:=0) Ko rfl (Or.inl rfl),dg,aq aR au (bx (aa (xv 0)) (bH) (bI (aa (xv 1)))) (bx (aa (xv 0)) (bI (aa (xv 2))) (bH))⟩⟩) (ae (aB (aa (xv 2)) (ai) (λ_ _=>rfl)) (aj)))))) (az (aW (bo (ae (aa (xv 8)) (ae (aa (xv 9)) (aj))))))))))))⟩
theorem vP{f:Qj}:cV P w K mg base 0 ["self","forms","tables"] "Pair.got" jW f fj:=
 ⟨λcdv A outer s H E hr hp=>(az (aW (aB (aa (xv 2)) (ai) (λ_ _=>rfl))))⟩
theorem wg{f:Qj}(fX:Callee P w K mg base 1 "by_key" ["many","rows"] (bi fS 2 2))(bN:mg "len"=none)(aK:mg "tuple"=none):cV P w K mg base 1 ["self","forms","tables","many","others"] "Join.got" kn f dH:=
 ⟨λcdv A outer s H E hr hp=>(ao (aC (i:=3) vT.nd rfl ‹1› (bu bY rfl bN PySem.boot_len (ae (aB (aB (aa (xv 1)) (ai) (λ_ _=>rfl)) (ai) (λ_ _=>rfl)) (aj)))) (ao (aC (i:=4) vT.nd rfl ‹1› (ax fX aU hr ‹0› (ae (aa (xv 3)) (ae (aB (aa (xv 2)) (ai) (λ_ _=>rfl)) (aj))))) (az (aW (bD bX rfl aK P7 (ae (fm (N:=["row","others","many"]) (ix:=[none,some 4,some 3]) rfl (.of rfl) (bS rfl) (cn (aB (aa (xv 2)) (ai) (λ_ _=>rfl))) ⟨λ_ _ _ _ _ _=>⟨aP (i:=0) La rfl (Or.inl rfl),ic (bv (G0 hr.units) au (bx (aa (xv 0)) (bH) (bI (aa (xv 2)))) (aa (xv 1)) rfl),aq aR au (aa (xv 0)) (bx (yO hr.units (aa (xv 1)) (bx (aa (xv 0)) (bH) (bI (aa (xv 2)))) (λ_ _=>rfl)) (bI (aa (xv 2))) (bH))⟩⟩) (aj)))))))⟩
theorem qC{f:Qj}(aK:mg "tuple"=none)(dR:mg "sorted"=none)(ik:mg "list"=none):cV P w K mg base 0 ["_law_many","_law_rows_here","_law_found","_law_row_here"] "_law_sorted" gU f aJ:=
 ⟨λcdv A outer s H E hr hp=>(ao (eX (i:=2) rp.nd rfl ‹1› (oC)) (ao (dY hp rfl (cn (aa (xv 1))) (aP (i:=3) rp.nd rfl ‹1›) (ao (Cj (hr.units) (xv 2) (bx (aa (xv 3)) (bH) (bI (aa (xv 0)))) (aa (xv 3))) (cj [3] aV))) (dM 2 (az (aW (bD bX rfl aK P7 (ae (fm (N:=["_law_key","_law_found"]) (ix:=[none,some 2]) rfl (.of rfl) (bS rfl) (cn (bu kj rfl dR iA (ae (bD (xO rfl) rfl ik P8 (ae (aa (xv 2)) (aj))) (aj)))) ⟨λ_ _ _ _ _ _=>⟨aP (i:=0) JW rfl (Or.inl rfl),dg,yO hr.units (aa (xv 1)) (aa (xv 0)) (λ_ _=>rfl)⟩⟩) (aj))))))))⟩
theorem v4{f:Qj}(aX:Callee P w K mg base 1 "_law_sorted" ["_law_many","_law_rows_here"] (bi aJ 2 4))(bN:mg "len"=none):cV P w K mg base 1 ["_law_one","_law_other","_law_tables","_law_view_here","_law_many","_law_wide","_law_brought","_law_there","_law_first","_law_last","_law_row_here"] "_law_due" kB f fw:=
 ⟨λcdv A outer s H E hr hp=>(ao (aC (i:=4) xg.nd rfl ‹1› (bu bY rfl bN PySem.boot_len (ae (aB (aa (xv 0)) (ai) (λ_ _=>rfl)) (aj)))) (ao (aC (i:=5) xg.nd rfl ‹1› (aq aR au (bu bY rfl bN PySem.boot_len (ae (aB (aa (xv 0)) (ai) (λ_ _=>rfl)) (aj))) (bu bY rfl bN PySem.boot_len (ae (aB (aa (xv 0)) (ai) (λ_ _=>rfl)) (aj))))) (ao (by first|exact qB (i:=6) xg.nd rfl ‹1› (N:=["_law_row_here","_law_many"]) (ix:=[none,some 4]) rfl (.of rfl) (bS rfl) (cn (aa (xv 3))) ⟨λ_ _ _ _ _ _=>⟨aP (i:=0) HZ rfl (Or.inl rfl),dg,bx (aa (xv 0)) (bH) (bI (aa (xv 1)))⟩⟩|exact aC (i:=6) xg.nd rfl ‹1› (fm (N:=["_law_row_here","_law_many"]) (ix:=[none,some 4]) rfl (.of rfl) (bS rfl) (cn (aa (xv 3))) ⟨λ_ _ _ _ _ _=>⟨aP (i:=0) HZ rfl (Or.inl rfl),dg,bx (aa (xv 0)) (bH) (bI (aa (xv 1)))⟩⟩)) (ao (by first|exact qB (i:=7) xg.nd rfl ‹1› (N:=["_law_row_here","_law_many"]) (ix:=[none,some 4]) rfl (.of rfl) (bS rfl) (cn (aB (aa (xv 2)) (ai) (λ_ _=>rfl))) ⟨λ_ _ _ _ _ _=>⟨aP (i:=0) HM rfl (Or.inl rfl),dg,bx (aa (xv 0)) (bH) (bI (aa (xv 1)))⟩⟩|exact aC (i:=7) xg.nd rfl ‹1› (fm (N:=["_law_row_here","_law_many"]) (ix:=[none,some 4]) rfl (.of rfl) (bS rfl) (cn (aB (aa (xv 2)) (ai) (λ_ _=>rfl))) ⟨λ_ _ _ _ _ _=>⟨aP (i:=0) HM rfl (Or.inl rfl),dg,bx (aa (xv 0)) (bH) (bI (aa (xv 1)))⟩⟩)) (ao (by first|exact Bb (i:=8) xg.nd rfl ‹1› (N:=["_law_row_here","_law_wide"]) (ix:=[none,some 5]) rfl (.of rfl) (bS rfl) (cn (aa (xv 3))) ⟨λ_ _ _ _ _ _=>⟨aP (i:=0) IZ rfl (Or.inl rfl),dg,bx (aa (xv 0)) (bH) (bI (aa (xv 1)))⟩⟩|exact eX (i:=8) xg.nd rfl ‹1› (Fy (N:=["_law_row_here","_law_wide"]) (ix:=[none,some 5]) rfl (.of rfl) (bS rfl) (cn (aa (xv 3))) ⟨λ_ _ _ _ _ _=>⟨aP (i:=0) IZ rfl (Or.inl rfl),dg,bx (aa (xv 0)) (bH) (bI (aa (xv 1)))⟩⟩)) (ao (by first|exact qB (i:=9) xg.nd rfl ‹1› (N:=["_law_row_here","_law_many","_law_wide"]) (ix:=[none,some 4,some 5]) rfl (.of rfl) (bS rfl) (cn (aa (xv 3))) ⟨λ_ _ _ _ _ _=>⟨aP (i:=0) EX rfl (Or.inl rfl),dg,aq aR au (bx (aa (xv 0)) (bH) (bI (aa (xv 1)))) (bx (aa (xv 0)) (bI (aa (xv 2))) (bH))⟩⟩|exact aC (i:=9) xg.nd rfl ‹1› (fm (N:=["_law_row_here","_law_many","_law_wide"]) (ix:=[none,some 4,some 5]) rfl (.of rfl) (bS rfl) (cn (aa (xv 3))) ⟨λ_ _ _ _ _ _=>⟨aP (i:=0) EX rfl (Or.inl rfl),dg,aq aR au (bx (aa (xv 0)) (bH) (bI (aa (xv 1)))) (bx (aa (xv 0)) (bI (aa (xv 2))) (bH))⟩⟩)) (cj [0,1,3,5] (ao (dY hp rfl (cn (aB (aa (xv 2)) (ai) (λ_ _=>rfl))) (aP (i:=10) xg.nd rfl ‹1›) (az (ca (De (qd (bv (mS hr.units) au (bx (aa (xv 10)) (bH) (bI (aa (xv 4)))) (aa (xv 6)) rfl) (nZ (bv (mS hr.units) au (bx (aa (xv 10)) (bH) (bI (aa (xv 4)))) (aa (xv 7)) rfl)))) (az (jl Qe Qf cY dS (xv 8) (ae (aa (xv 10)) (aj)))) (aV)))) (ao (aC (i:=9) xg.nd rfl ‹1› (aq aR au (aa (xv 9)) (fm (N:=["_law_row_here","_law_many","_law_brought"]) (ix:=[none,some 4,some 6]) rfl (.of rfl) (bS rfl) (cn (aB (aa (xv 2)) (ai) (λ_ _=>rfl))) ⟨λ_ _ _ _ _ _=>⟨aP (i:=0) IY rfl (Or.inl rfl),ic (bv (mS hr.units) au (bx (aa (xv 0)) (bH) (bI (aa (xv 1)))) (aa (xv 2)) rfl),aa (xv 0)⟩⟩))) (dM 8 (az (aW (bo (ae (ax aX aU hr ‹0› (ae (aa (xv 4)) (ae (aa (xv 8)) (aj)))) (ae (ax aX aU hr ‹0› (ae (aa (xv 4)) (ae (aa (xv 9)) (aj)))) (aj))))))))))))))))⟩
theorem uH{f:Qj}:cV P w K mg base 0 ["_law_x"] "_law_next" jc f aG:=
 ⟨λcdv A outer s H E hr hp=>(az (aW (aq bj bn (aq aR au (aq aR au (aq kr ko (aa (xv 0)) (aa (xv 0))) (aq kr ko (ai) (aa (xv 0)))) (ai)) (ai))))⟩
theorem sj{n:Nat}{f:Qj}(ay:Callee P w K mg base 1 "_law_next" ["_law_x"] (bi aG 1 1))(aX:Callee P w K mg base 1 "_law_sorted" ["_law_many","_law_rows_here"] (bi aJ 2 4))(bN:mg "len"=none)(iw:mg "max"=none)(gX:mg "int"=none)(aK:mg "tuple"=none)(bC:mg "range"=none){aD:List D->R D}(fI:Callee P w K mg base (1+n) "_law_value" ["_law_kind_here","_law_x"] aD)(L__law_value:Ar 2 aD){aL:List D->R D}(fu:Callee P w K mg base (1+n) "_law_row" ["_law_form_here","_law_many","_law_head","_law_tail"] aL)(L__law_row:Ar 4 aL){aQ:List D->R D}(iZ:Callee P w K mg base (1+n) "_law_rows" ["_law_form_here","_law_x","_law_many"] aQ)(L__law_rows:Ar 3 aQ):cV P w K mg base (1+n) ["_law_kind_here","_law_x"] "_law_value" fF f (fK aD aL aQ):=
 ⟨λcdv A outer s H E hr hp=>(ao (ca (bv (cX hr.units) au (aB (aa (xv 0)) (ai) (λ_ _=>rfl)) (cK) (cf _)) (az (aW (aq aR au (aB (aa (xv 0)) (ai) (λ_ _=>rfl)) (aq bj bn (aq gg gz (aa (xv 1)) (ai)) (aq aR au (aq qU qT (aB (aa (xv 0)) (ai) (λ_ _=>rfl)) (aB (aa (xv 0)) (ai) (λ_ _=>rfl))) (ai)))))) (aV)) (ao (ca (bv (cX hr.units) au (aB (aa (xv 0)) (ai) (λ_ _=>rfl)) (cK) (cf _)) (az (aW (aB (aB (aa (xv 0)) (ai) (λ_ _=>rfl)) (aq bj bn (aa (xv 1)) (bu bY rfl bN PySem.boot_len (ae (aB (aa (xv 0)) (ai) (λ_ _=>rfl)) (aj)))) (λ_ _=>rfl)))) (aV)) (az (aW (ax iZ L__law_rows hr ‹0› (ae (aB (aa (xv 0)) (ai) (λ_ _=>rfl)) (ae (aq bf bM (aa (xv 1)) (ai)) (ae (bu (nu rfl) rfl iw P9 (ae (aq bj bn (aa (xv 1)) (ai)) (ae (bD yB rfl gX P6 (ae (aB (aa (xv 0)) (ai) (λ_ _=>rfl)) (aj))) (aj)))) (aj)))))))))⟩
theorem xq{n:Nat}{f:Qj}(ay:Callee P w K mg base 1 "_law_next" ["_law_x"] (bi aG 1 1))(aX:Callee P w K mg base 1 "_law_sorted" ["_law_many","_law_rows_here"] (bi aJ 2 4))(bN:mg "len"=none)(iw:mg "max"=none)(gX:mg "int"=none)(aK:mg "tuple"=none)(bC:mg "range"=none){aD:List D->R D}(fI:Callee P w K mg base (1+n) "_law_value" ["_law_kind_here","_law_x"] aD)(L__law_value:Ar 2 aD){aL:List D->R D}(fu:Callee P w K mg base (1+n) "_law_row" ["_law_form_here","_law_many","_law_head","_law_tail"] aL)(L__law_row:Ar 4 aL){aQ:List D->R D}(iZ:Callee P w K mg base (1+n) "_law_rows" ["_law_form_here","_law_x","_law_many"] aQ)(L__law_rows:Ar 3 aQ):cV P w K mg base (1+n) ["_law_form_here","_law_many","_law_head","_law_tail","_law_row_here","_law_name_here","_law_kind_here"] "_law_row" iT f (jV aD aL aQ):=
 ⟨λcdv A outer s H E hr hp=>(ao (eX (i:=4) vD.nd rfl ‹1› (jb (aj))) (ao (dY hp rfl (cn (aq aR au (aB (aa (xv 0)) (ai) (λ_ _=>rfl)) (aB (aa (xv 0)) (ai) (λ_ _=>rfl)))) (kD (g:=nH [5,6]) rfl (cI (aP (i:=5) vD.nd rfl ‹1›) (cI (aP (i:=6) vD.nd rfl ‹1›) (iQ)))) (ao (ca (wO [4] (bv (pD hr.units) au (bu bY rfl bN PySem.boot_len (ae (aa (xv 4)) (aj))) (aa (xv 1)) (cf _))) (ao (aC (i:=2) vD.nd rfl ‹1› (ax ay aU hr ‹0› (ae (aa (xv 2)) (aj)))) (az (jl Qe Qf cY dS (xv 4) (ae (ax fI L__law_value hr ‹0› (ae (aa (xv 6)) (ae (aa (xv 2)) (aj)))) (aj))))) (ao (aC (i:=3) vD.nd rfl ‹1› (ax ay aU hr ‹0› (ae (aa (xv 3)) (aj)))) (az (jl Qe Qf cY dS (xv 4) (ae (ax fI L__law_value hr ‹0› (ae (aa (xv 6)) (ae (aa (xv 3)) (aj)))) (aj)))))) (cj [5,6] aV))) (dM 4 (az (aW (bD bX rfl aK P7 (ae (aa (xv 4)) (aj))))))))⟩
theorem vy{n:Nat}{f:Qj}(ay:Callee P w K mg base 1 "_law_next" ["_law_x"] (bi aG 1 1))(aX:Callee P w K mg base 1 "_law_sorted" ["_law_many","_law_rows_here"] (bi aJ 2 4))(bN:mg "len"=none)(iw:mg "max"=none)(gX:mg "int"=none)(aK:mg "tuple"=none)(bC:mg "range"=none){aD:List D->R D}(fI:Callee P w K mg base (1+n) "_law_value" ["_law_kind_here","_law_x"] aD)(L__law_value:Ar 2 aD){aL:List D->R D}(fu:Callee P w K mg base (1+n) "_law_row" ["_law_form_here","_law_many","_law_head","_law_tail"] aL)(L__law_row:Ar 4 aL){aQ:List D->R D}(iZ:Callee P w K mg base (1+n) "_law_rows" ["_law_form_here","_law_x","_law_many"] aQ)(L__law_rows:Ar 3 aQ):cV P w K mg base (1+n) ["_law_form_here","_law_x","_law_many","_law_rows_here","_law_k"] "_law_rows" ia f (ji aD aL aQ):=
 ⟨λcdv A outer s H E hr hp=>(ao (eX (i:=3) uL.nd rfl ‹1› (jb (aj))) (ao (dY hp rfl (gC rfl bC (ae (aa (xv 2)) (aj))) (aP (i:=4) uL.nd rfl ‹1›) (ao (aC (i:=1) uL.nd rfl ‹1› (ax ay aU hr ‹0› (ae (aa (xv 1)) (aj)))) (ao (jl Qe Qf cY dS (xv 3) (ae (ax fu L__law_row hr ‹0› (ae (aa (xv 0)) (ae (ai) (ae (ai) (ae (aa (xv 1)) (aj)))))) (aj))) (cj [4] aV)))) (dM 3 (az (aW (ax aX aU hr ‹0› (ae (bu bY rfl bN PySem.boot_len (ae (aB (aa (xv 0)) (ai) (λ_ _=>rfl)) (aj))) (ae (aa (xv 3)) (aj)))))))))⟩
theorem ly{f__law_value:Qj}{fd__law_value:QR}(F__law_value:xC K "_law_value" "_law_value" fF f__law_value fd__law_value)(jY:Binds K fd__law_value ["_law_kind_here","_law_x"] [])(m__law_value:mg "_law_value"=some (.ref f__law_value)){f__law_row:Qj}{fd__law_row:QR}(F__law_row:xC K "_law_row" "_law_row" iT f__law_row fd__law_row)(nA:Binds K fd__law_row ["_law_form_here","_law_many","_law_head","_law_tail"] [])(m__law_row:mg "_law_row"=some (.ref f__law_row)){f__law_rows:Qj}{fd__law_rows:QR}(F__law_rows:xC K "_law_rows" "_law_rows" ia f__law_rows fd__law_rows)(lj:Binds K fd__law_rows ["_law_form_here","_law_x","_law_many"] [])(m__law_rows:mg "_law_rows"=some (.ref f__law_rows))(ay:Callee P w K mg base 1 "_law_next" ["_law_x"] (bi aG 1 1))(aX:Callee P w K mg base 1 "_law_sorted" ["_law_many","_law_rows_here"] (bi aJ 2 4))(bN:mg "len"=none)(iw:mg "max"=none)(gX:mg "int"=none)(aK:mg "tuple"=none)(bC:mg "range"=none):∀n:Nat,Callee P w K mg base (1+n) "_law_value" ["_law_kind_here","_law_x"] (aD n)/\Callee P w K mg base (1+n) "_law_row" ["_law_form_here","_law_many","_law_head","_law_tail"] (aL n)/\Callee P w K mg base (1+n) "_law_rows" ["_law_form_here","_law_x","_law_many"] (aQ n)
 |0=>by
  rw[aD];rw[aL];rw[aQ];exact⟨fE 1 F__law_value jY m__law_value,fE 1 F__law_row nA m__law_row,fE 1 F__law_rows lj m__law_rows⟩
 |n+1=>by
  have ih:=ly F__law_value jY m__law_value F__law_row nA m__law_row F__law_rows lj m__law_rows ay aX bN iw gX aK bC n;rw[eA];rw[iq];rw[gR];exact⟨bA F__law_value jY m__law_value sk (cV.ok (sj ay aX bN iw gX aK bC ih.1 (ip n) ih.2.1 (gW n) ih.2.2 (iO n))),bA F__law_row nA m__law_row vD (cV.ok (xq ay aX bN iw gX aK bC ih.1 (ip n) ih.2.1 (gW n) ih.2.2 (iO n))),bA F__law_rows lj m__law_rows uL (cV.ok (vy ay aX bN iw gX aK bC ih.1 (ip n) ih.2.1 (gW n) ih.2.2 (iO n)))⟩
theorem rH{f:Qj}(fu:Callee P w K mg base 13 "_law_row" ["_law_form_here","_law_many","_law_head","_law_tail"] (aL 12))(aK:mg "tuple"=none):cV P w K mg base 13 ["_law_fields","_law_x"] "_law_values" gV f bG:=
 ⟨λcdv A outer s H E hr hp=>(az (aW (ax fu (gW 12) hr ‹0› (ae (bo (ae (bD bX rfl aK P7 (ae (aa (xv 0)) (aj))) (ae (bo (aj)) (aj)))) (ae (ai) (ae (ai) (ae (aa (xv 1)) (aj))))))))⟩
theorem xf{f:Qj}(kK:mg "zip"=none):cV P w K mg base 0 ["_law_fields","_law_key","_law_field","_law_value_here","_law_kind_here"] "_law_fit" kc f gA:=
 ⟨λcdv A outer s H E hr hp=>(ao (dY hp rfl (vf rfl kK (ae (aa (xv 0)) (ae (aa (xv 1)) (aj)))) (kD (g:=nH [2,3]) rfl (cI (aP (i:=2) xn.nd rfl ‹1›) (cI (aP (i:=3) xn.nd rfl ‹1›) (iQ)))) (ao (aC (i:=4) xn.nd rfl ‹1› (aB (aa (xv 2)) (ai) (λ_ _=>rfl))) (ao (ca (De (qd (bv (cX hr.units) au (aB (aa (xv 4)) (ai) (λ_ _=>rfl)) (cK) (cf _)) (nZ (De (pA (bv (pD hr.units) au (aa (xv 3)) (aB (aa (xv 4)) (ai) (λ_ _=>rfl)) (cf _)) (mG (bv IR AX (aa (xv 3)) (aB (aa (xv 4)) (ai) (λ_ _=>rfl)) (cf _)))))))) (az (aW (gK))) (aV)) (ao (ca (De (qd (bv (cX hr.units) au (aB (aa (xv 4)) (ai) (λ_ _=>rfl)) (cK) (cf _)) (nZ (bv (mS hr.units) au (aa (xv 3)) (aB (aa (xv 4)) (ai) (λ_ _=>rfl)) rfl)))) (az (aW (gK))) (aV)) (cj [2,3,4] aV))))) (az (aW (gK))))⟩
theorem pY{f:Qj}(sZ:mg "min"=none)(iw:mg "max"=none)(aK:mg "tuple"=none):cV P w K mg base 0 ["_law_one","_law_other"] "_law_in_both" fU f dB:=
 ⟨λcdv A outer s H E hr hp=>(ao (ca (bv (cX hr.units) au (aB (aa (xv 0)) (ai) (λ_ _=>rfl)) (cK) (cf _)) (az (aW (bo (ae (cK) (ae (bu (nu rfl) rfl iw P9 (ae (aB (aa (xv 0)) (ai) (λ_ _=>rfl)) (ae (aB (aa (xv 1)) (ai) (λ_ _=>rfl)) (aj)))) (ae (bu (qG rfl) rfl sZ Qa (ae (aB (aa (xv 0)) (ai) (λ_ _=>rfl)) (ae (aB (aa (xv 1)) (ai) (λ_ _=>rfl)) (aj)))) (aj))))))) (aV)) (az (aW (bo (ae (cK) (ae (bD bX rfl aK P7 (ae (fm (N:=["_law_word","_law_other"]) (ix:=[none,some 1]) rfl (.of rfl) (bS rfl) (cn (aB (aa (xv 0)) (ai) (λ_ _=>rfl))) ⟨λ_ _ _ _ _ _=>⟨aP (i:=0) IK rfl (Or.inl rfl),ic (bv (ya hr.units) au (aa (xv 0)) (aB (aa (xv 1)) (ai) (λ_ _=>rfl)) rfl),aa (xv 0)⟩⟩) (aj))) (aj)))))))⟩
theorem mV{f:Qj}(iU:Callee P w K mg base 1 "_law_in_both" ["_law_one","_law_other"] (bi dB 2 2))(kK:mg "zip"=none)(aK:mg "tuple"=none):cV P w K mg base 1 ["_law_one","_law_other","_law_found","_law_field","_law_more"] "_law_key_of_both" dI f bJ:=
 ⟨λcdv A outer s H E hr hp=>(ao (eX (i:=2) mX.nd rfl ‹1› (jb (aj))) (ao (dY hp rfl (vf rfl kK (ae (aB (aa (xv 0)) (ai) (λ_ _=>rfl)) (ae (aB (aa (xv 1)) (ai) (λ_ _=>rfl)) (aj)))) (kD (g:=nH [3,4]) rfl (cI (aP (i:=3) mX.nd rfl ‹1›) (cI (aP (i:=4) mX.nd rfl ‹1›) (iQ)))) (ao (jl Qe Qf cY dS (xv 2) (ae (bo (ae (aB (aa (xv 3)) (ai) (λ_ _=>rfl)) (ae (ax iU aU hr ‹0› (ae (aB (aa (xv 3)) (ai) (λ_ _=>rfl)) (ae (aB (aa (xv 4)) (ai) (λ_ _=>rfl)) (aj)))) (aj)))) (aj))) (cj [3,4] aV))) (dM 2 (az (aW (bD bX rfl aK P7 (ae (aa (xv 2)) (aj))))))))⟩
theorem uK{f:Qj}(cB:Callee P w K mg base 2 "_law_key_of_both" ["_law_one","_law_other"] (bi bJ 2 5))(ay:Callee P w K mg base 1 "_law_next" ["_law_x"] (bi aG 1 1))(cC:Callee P w K mg base 14 "_law_values" ["_law_fields","_law_x"] (bi bG 2 2))(nD:Callee P w K mg base 1 "_law_fit" ["_law_fields","_law_key"] (bi gA 2 5))(aX:Callee P w K mg base 1 "_law_sorted" ["_law_many","_law_rows_here"] (bi aJ 2 4))(bN:mg "len"=none)(bC:mg "range"=none):cV P w K mg base 14 ["_law_one","_law_other","_law_tables","_law_x","_law_both_key","_law_many","_law_keys","_law_rows_here","_law_k","_law_key"] "_law_view" jd f h7:=
 ⟨λcdv A outer s H E hr hp=>(ao (aC (i:=4) uZ.nd rfl ‹1› (ax cB aU hr ‹0› (ae (aa (xv 0)) (ae (aa (xv 1)) (aj))))) (ao (aC (i:=5) uZ.nd rfl ‹1› (bu bY rfl bN PySem.boot_len (ae (aB (aa (xv 0)) (ai) (λ_ _=>rfl)) (aj)))) (ao (by first|exact qB (i:=6) uZ.nd rfl ‹1› (N:=["_law_row_here","_law_many"]) (ix:=[none,some 5]) rfl (.of rfl) (bS rfl) (cn (aq aR au (aB (aa (xv 2)) (ai) (λ_ _=>rfl)) (aB (aa (xv 2)) (ai) (λ_ _=>rfl)))) ⟨λ_ _ _ _ _ _=>⟨aP (i:=0) EV rfl (Or.inl rfl),dg,bx (aa (xv 0)) (bH) (bI (aa (xv 1)))⟩⟩|exact aC (i:=6) uZ.nd rfl ‹1› (fm (N:=["_law_row_here","_law_many"]) (ix:=[none,some 5]) rfl (.of rfl) (bS rfl) (cn (aq aR au (aB (aa (xv 2)) (ai) (λ_ _=>rfl)) (aB (aa (xv 2)) (ai) (λ_ _=>rfl)))) ⟨λ_ _ _ _ _ _=>⟨aP (i:=0) EV rfl (Or.inl rfl),dg,bx (aa (xv 0)) (bH) (bI (aa (xv 1)))⟩⟩)) (ao (eX (i:=7) uZ.nd rfl ‹1› (jb (aj))) (cj [2] (ao (dY hp rfl (gC rfl bC (ae (aq bj bn (aa (xv 3)) (ai)) (aj))) (aP (i:=8) uZ.nd rfl ‹1›) (ao (aC (i:=3) uZ.nd rfl ‹1› (ax ay aU hr ‹0› (ae (aq aR au (aa (xv 3)) (aa (xv 8))) (aj)))) (ao (aC (i:=9) uZ.nd rfl ‹1› (ax cC aU hr ‹0› (ae (aa (xv 4)) (ae (aB (du (ae (aa (xv 3)) (ae (aq bj bn (aa (xv 3)) (ai)) (aj)))) (aq bj bn (aq bf bM (aa (xv 3)) (ai)) (ai)) (λ_ _=>rfl)) (aj))))) (ao (ca (De (qd (bv (cX hr.units) au (aq bj bn (aa (xv 3)) (ai)) (ai) (cf _)) (nZ (bv (BH hr.units) au (aa (xv 6)) (du (aj)) (cf _))))) (az (aC (i:=9) uZ.nd rfl ‹1› (aB (aa (xv 6)) (aq bj bn (aq bf bM (aa (xv 3)) (ai)) (bu bY rfl bN PySem.boot_len (ae (aa (xv 6)) (aj)))) (λ_ _=>rfl)))) (aV)) (ao (ca (dE (ax nD aU hr ‹0› (ae (aa (xv 4)) (ae (aa (xv 9)) (aj))))) (az (jl Qe Qf cY dS (xv 7) (ae (aq aR au (aa (xv 9)) (ax cC aU hr ‹0› (ae (aq aR au (aB (aa (xv 0)) (ai) (λ_ _=>rfl)) (aB (aa (xv 1)) (ai) (λ_ _=>rfl))) (ae (ax ay aU hr ‹0› (ae (aa (xv 3)) (aj))) (aj))))) (aj)))) (aV)) (cj [8,9] aV)))))) (dM 7 (az (aW (ax aX aU hr ‹0› (ae (aa (xv 5)) (ae (aa (xv 7)) (aj)))))))))))))⟩
theorem pZ{f:Qj}(bN:mg "len"=none):cV P w K mg base 0 ["_law_script","_law_k"] "_law_cell_at" fY f dD:=
 ⟨λcdv A outer s H E hr hp=>(ao (ca (bv (pD hr.units) au (aa (xv 1)) (bu bY rfl bN PySem.boot_len (ae (aa (xv 0)) (aj))) (cf _)) (az (aW (aB (aa (xv 0)) (aa (xv 1)) (λ_ _=>rfl)))) (aV)) (az (aW (ai))))⟩
theorem vn{f:Qj}(dC:Callee P w K mg base 1 "_law_cell_at" ["_law_script","_law_k"] (bi dD 2 2))(ay:Callee P w K mg base 1 "_law_next" ["_law_x"] (bi aG 1 1)):cV P w K mg base 1 ["_law_script","_law_k","_law_x"] "_law_seed" jh f cH:=
 ⟨λcdv A outer s H E hr hp=>(ao (aC (i:=2) uI.nd rfl ‹1› (aq bj bn (aq aR au (aq aR au (aq bj bn (ax dC aU hr ‹0› (ae (aa (xv 0)) (ae (aa (xv 1)) (aj)))) (ai)) (aq kr ko (aq kr ko (ai) (aa (xv 1))) (aa (xv 1)))) (ai)) (ai))) (az (aW (ax ay aU hr ‹0› (ae (ax ay aU hr ‹0› (ae (aa (xv 2)) (aj))) (aj))))))⟩
theorem kO{f:Qj}(cB:Callee P w K mg base 2 "_law_key_of_both" ["_law_one","_law_other"] (bi bJ 2 5))(de:Callee P w K mg base 2 "_law_seed" ["_law_script","_law_k"] (bi cH 2 3))(ay:Callee P w K mg base 1 "_law_next" ["_law_x"] (bi aG 1 1))(cC:Callee P w K mg base 14 "_law_values" ["_law_fields","_law_x"] (bi bG 2 2))(aX:Callee P w K mg base 1 "_law_sorted" ["_law_many","_law_rows_here"] (bi aJ 2 4))(bC:mg "range"=none)(sZ:mg "min"=none)(iw:mg "max"=none)(bN:mg "len"=none):cV P w K mg base 14 ["_law_one","_law_other","_law_script","_law_start","_law_most","_law_both_key","_law_rows_here","_law_k","_law_x","_law_way","_law_y","_law_key"] "_law_joined_tables" df f cG:=
 ⟨λcdv A outer s H E hr hp=>(ao (aC (i:=5) kN.nd rfl ‹1› (ax cB aU hr ‹0› (ae (aa (xv 0)) (ae (aa (xv 1)) (aj))))) (ao (AF (i:=6) kN.nd rfl ‹1›) (ao (dY hp rfl (xX rfl bC (ae (aa (xv 3)) (ae (bu (qG rfl) rfl sZ Qa (ae (bu (nu rfl) rfl iw P9 (ae (bu bY rfl bN PySem.boot_len (ae (aa (xv 2)) (aj))) (ae (aq aR au (aa (xv 3)) (ai)) (aj)))) (ae (aq aR au (aa (xv 3)) (aa (xv 4))) (aj)))) (aj)))) (aP (i:=7) kN.nd rfl ‹1›) (ao (aC (i:=8) kN.nd rfl ‹1› (ax de aU hr ‹0› (ae (aa (xv 2)) (ae (aa (xv 7)) (aj))))) (ao (aC (i:=9) kN.nd rfl ‹1› (aq bj bn (aa (xv 8)) (ai))) (ao (aC (i:=10) kN.nd rfl ‹1› (ax ay aU hr ‹0› (ae (aa (xv 8)) (aj)))) (ao (aC (i:=11) kN.nd rfl ‹1› (ax cC aU hr ‹0› (ae (aB (du (ae (aB (aa (xv 0)) (ai) (λ_ _=>rfl)) (ae (aB (aa (xv 1)) (ai) (λ_ _=>rfl)) (ae (aa (xv 5)) (ae (aa (xv 5)) (ae (aa (xv 5)) (aj))))))) (aa (xv 9)) (λ_ _=>rfl)) (ae (aB (du (ae (aa (xv 10)) (ae (aq bj bn (aa (xv 10)) (ai)) (aj)))) (aq bj bn (aq bf bM (aa (xv 8)) (ai)) (ai)) (λ_ _=>rfl)) (aj))))) (ao (ca (bv (ya hr.units) au (aa (xv 9)) (bo (ae (ai) (ae (ai) (ae (ai) (aj))))) rfl) (az (vL (c:=0) (xv 6) (aq aR au (aa (xv 11)) (ax cC aU hr ‹0› (ae (aB (aa (xv 0)) (ai) (λ_ _=>rfl)) (ae (aq aR au (aa (xv 10)) (ai)) (aj))))))) (aV)) (ao (ca (bv (ya hr.units) au (aa (xv 9)) (bo (ae (ai) (ae (ai) (ae (ai) (aj))))) rfl) (az (vL (c:=1) (xv 6) (aq aR au (aa (xv 11)) (ax cC aU hr ‹0› (ae (aB (aa (xv 1)) (ai) (λ_ _=>rfl)) (ae (aq aR au (aa (xv 10)) (ai)) (aj))))))) (aV)) (cj [7,8,9,10,11] aV)))))))) (zQ 6 (az (aW (bo (ae (ax aX aU hr ‹0› (ae (bu bY rfl bN PySem.boot_len (ae (aB (aa (xv 0)) (ai) (λ_ _=>rfl)) (aj))) (ae (aB (aa (xv 6)) (ai) (λ_ _=>rfl)) (aj)))) (ae (ax aX aU hr ‹0› (ae (bu bY rfl bN PySem.boot_len (ae (aB (aa (xv 0)) (ai) (λ_ _=>rfl)) (aj))) (ae (aB (aa (xv 6)) (ai) (λ_ _=>rfl)) (aj)))) (aj))))))))))⟩
theorem vk{f:Qj}(bC:mg "range"=none):cV P w K mg base 0 ["_law_base","_law_k","_law_letters","_law_size","_law_name_here","_law_j","_law_step"] "_law_name" jf f bU:=
 ⟨λcdv A outer s H E hr hp=>(ao (aC (i:=2) vj.nd rfl ‹1› (cK)) (ao (aC (i:=1) vj.nd rfl ‹1› (aq bj bn (aq aR au (aq kr ko (aa (xv 1)) (aB (du (ae (ai) (ae (ai) (ae (ai) (ae (ai) (ae (ai) (ae (ai) (aj)))))))) (aq bj bn (aa (xv 0)) (ai)) (λ_ _=>rfl))) (aq bf bM (aa (xv 0)) (ai))) (ai))) (ao (aC (i:=0) vj.nd rfl ‹1› (aq bf bM (aa (xv 0)) (ai))) (ao (ca (bv (cX hr.units) au (aq bj bn (aa (xv 0)) (ai)) (ai) (cf _)) (az (aW (aq nO au (aB (aa (xv 2)) (aq bj bn (aq aR au (aq bf bM (aa (xv 0)) (ai)) (aq bf bM (aa (xv 1)) (ai))) (ai)) (λ_ _=>rfl)) (aq aR au (ai) (aq bj bn (aa (xv 1)) (ai)))))) (aV)) (ao (aC (i:=3) vj.nd rfl ‹1› (aq aR au (ai) (aq bj bn (aq bf bM (aa (xv 0)) (ai)) (ai)))) (ao (aC (i:=4) vj.nd rfl ‹1› (cK)) (ao (dY hp rfl (gC rfl bC (ae (aa (xv 3)) (aj))) (aP (i:=5) vj.nd rfl ‹1›) (ao (aC (i:=6) vj.nd rfl ‹1› (aq bf bM (aa (xv 0)) (aq aR au (ai) (aq kr ko (aq kr ko (ai) (aa (xv 5))) (aa (xv 5)))))) (ao (ca (bv (cX hr.units) au (aa (xv 5)) (aq bj bn (aq bf bM (aa (xv 0)) (ai)) (aa (xv 3))) (cf _)) (az (aC (i:=6) vj.nd rfl ‹1› (aq aR au (aa (xv 6)) (aa (xv 1))))) (aV)) (ao (aC (i:=4) vj.nd rfl ‹1› (aq aR au (aa (xv 4)) (aB (aa (xv 2)) (aq bj bn (aa (xv 6)) (ai)) (λ_ _=>rfl)))) (cj [5,6] aV))))) (az (aW (aa (xv 4)))))))))))⟩
theorem sA{f:Qj}(bC:mg "range"=none)(bN:mg "len"=none)(aK:mg "tuple"=none)(dR:mg "sorted"=none)(ik:mg "list"=none):cV P w K mg base 0 ["_law_x","_law_low","_law_letters","_law_one","_law_other","_law_some","_law_kept","_law_k"] "_law_plain" iC f cR:=
 ⟨λcdv A outer s H E hr hp=>(ao (ca (bv (pD hr.units) au (aq bj bn (aa (xv 0)) (ai)) (ai) (cf _)) (ao (aC (i:=1) sB.nd rfl ‹1› (aB (du (ae (ai) (ae (zA (ai)) (ae (aq qU qT (ai) (aq bj bn (aq gg gz (aa (xv 0)) (ai)) (aq gg gz (ai) (ai)))) (ae (aq bj bn (aq gg gz (aa (xv 0)) (ai)) (aq gg gz (ai) (ai))) (aj)))))) (aq bj bn (aq bf bM (aa (xv 0)) (ai)) (ai)) (λ_ _=>rfl))) (az (aW (bo (ae (cK) (ae (aa (xv 1)) (ae (aq aR au (aa (xv 1)) (aB (du (ae (ai) (ae (ai) (ae (ai) (ae (aq gg gz (ai) (ai)) (aj)))))) (aq bj bn (aq bf bM (aa (xv 0)) (ai)) (ai)) (λ_ _=>rfl))) (aj)))))))) (aV)) (ao (aC (i:=2) sB.nd rfl ‹1› (cK)) (ao (aC (i:=3) sB.nd rfl ‹1› (aB (aa (xv 2)) (aq bj bn (aq bf bM (aa (xv 0)) (ai)) (ai)) (λ_ _=>rfl))) (ao (aC (i:=4) sB.nd rfl ‹1› (aB (aa (xv 2)) (aq bj bn (aq bf bM (aa (xv 0)) (ai)) (ai)) (λ_ _=>rfl))) (ao (aC (i:=5) sB.nd rfl ‹1› (du (ae (cK) (ae (aa (xv 3)) (ae (aa (xv 4)) (ae (aq aR au (aa (xv 3)) (aa (xv 4))) (ae (aq aR au (aa (xv 4)) (aa (xv 3))) (ae (aq nO au (aa (xv 3)) (ai)) (ae (aq aR au (aa (xv 3)) (aa (xv 3))) (ae (aq nO au (aa (xv 4)) (ai)) (aj))))))))))) (ao (eX (i:=6) sB.nd rfl ‹1› (oC)) (cj [1,2,4] (ao (dY hp rfl (gC rfl bC (ae (ai) (aj))) (aP (i:=7) sB.nd rfl ‹1›) (ao (ca (bv (cX hr.units) au (aq xH xM (aq yd yh (aq bf bM (aa (xv 0)) (ai)) (aa (xv 7))) (ai)) (ai) (cf _)) (az (rW (hr.units) (xv 6) (aB (aa (xv 5)) (aa (xv 7)) (λ_ _=>rfl)) (gK))) (aV)) (cj [7] aV))) (ao (ca (wO [6] (bv (cX hr.units) au (bu A8 rfl bN PySem.boot_len (ae (aa (xv 6)) (aj))) (ai) (cf _))) (az (rW (hr.units) (xv 6) (aa (xv 3)) (gK))) (aV)) (dM 6 (az (aW (bo (ae (cK) (ae (bD bX rfl aK P7 (ae (bu kj rfl dR iA (ae (bD (rE rfl) rfl ik P8 (ae (aa (xv 6)) (aj))) (aj))) (aj))) (aj))))))))))))))))⟩
theorem vv{n:Nat}{f:Qj}(cQ:Callee P w K mg base 1 "_law_plain" ["_law_x"] (bi cR 1 8))(ay:Callee P w K mg base 1 "_law_next" ["_law_x"] (bi aG 1 1))(cm:Callee P w K mg base 1 "_law_name" ["_law_base","_law_k"] (bi bU 2 7))(bC:mg "range"=none)(aK:mg "tuple"=none){bg:List D->R D}(li:Callee P w K mg base (1+n) "_law_kind" ["_law_x","_law_base","_law_deep"] bg)(L__law_kind:Ar 3 bg){aN:List D->R D}(eI:Callee P w K mg base (1+n) "_law_form" ["_law_x","_law_base","_law_start","_law_many","_law_more","_law_deep"] aN)(L__law_form:Ar 6 aN):cV P w K mg base (1+n) ["_law_x","_law_base","_law_deep","_law_inner"] "_law_kind" hZ f (gY bg aN):=
 ⟨λcdv A outer s H E hr hp=>(ao (ca (De (pA (bv (cX hr.units) au (aa (xv 2)) (ai) (cf _)) (mG (bv (pD hr.units) au (aq bj bn (aa (xv 0)) (ai)) (ai) (cf _))))) (az (aW (ax cQ aU hr ‹0› (ae (aq bf bM (aa (xv 0)) (ai)) (aj))))) (aV)) (ao (aC (i:=3) vA.nd rfl ‹1› (ax eI L__law_form hr ‹0› (ae (aq bf bM (aa (xv 0)) (ai)) (ae (aa (xv 1)) (ae (aq bj bn (aq bf bM (aa (xv 0)) (ai)) (ai)) (ae (aq aR au (ai) (aq bj bn (aq bf bM (aa (xv 0)) (ai)) (ai))) (ae (aq bj bn (aq bf bM (aa (xv 0)) (ai)) (ai)) (ae (aq qU qT (aa (xv 2)) (ai)) (aj))))))))) (az (aW (bo (ae (cK) (ae (aa (xv 3)) (ae (qg (cX hr.units) au (aq bj bn (aq bf bM (aa (xv 0)) (ai)) (ai)) (ai) (cf _)) (aj)))))))))⟩
theorem vo{n:Nat}{f:Qj}(cQ:Callee P w K mg base 1 "_law_plain" ["_law_x"] (bi cR 1 8))(ay:Callee P w K mg base 1 "_law_next" ["_law_x"] (bi aG 1 1))(cm:Callee P w K mg base 1 "_law_name" ["_law_base","_law_k"] (bi bU 2 7))(bC:mg "range"=none)(aK:mg "tuple"=none){bg:List D->R D}(li:Callee P w K mg base (1+n) "_law_kind" ["_law_x","_law_base","_law_deep"] bg)(L__law_kind:Ar 3 bg){aN:List D->R D}(eI:Callee P w K mg base (1+n) "_law_form" ["_law_x","_law_base","_law_start","_law_many","_law_more","_law_deep"] aN)(L__law_form:Ar 6 aN):cV P w K mg base (1+n) ["_law_x","_law_base","_law_start","_law_many","_law_more","_law_deep","_law_key","_law_rest","_law_k"] "_law_form" hJ f (i3 bg aN):=
 ⟨λcdv A outer s H E hr hp=>(ao (eX (i:=6) uV.nd rfl ‹1› (jb (aj))) (ao (eX (i:=7) uV.nd rfl ‹1› (jb (aj))) (ao (dY hp rfl (gC rfl bC (ae (aq aR au (aa (xv 3)) (aa (xv 4))) (aj))) (aP (i:=8) uV.nd rfl ‹1›) (ao (aC (i:=0) uV.nd rfl ‹1› (ax ay aU hr ‹0› (ae (aa (xv 0)) (aj)))) (ao (ca (bv (pD hr.units) au (aa (xv 8)) (aa (xv 3)) (cf _)) (az (jl Qe Qf cY dS (xv 6) (ae (bo (ae (ax cm aU hr ‹0› (ae (aa (xv 1)) (ae (aq aR au (aa (xv 2)) (aa (xv 8))) (aj)))) (ae (ax cQ aU hr ‹0› (ae (aa (xv 0)) (aj))) (aj)))) (aj)))) (az (jl Qe Qf cY dS (xv 7) (ae (bo (ae (ax cm aU hr ‹0› (ae (aa (xv 1)) (ae (aq aR au (aa (xv 2)) (aa (xv 8))) (aj)))) (ae (ax li L__law_kind hr ‹0› (ae (aa (xv 0)) (ae (aa (xv 1)) (ae (aa (xv 5)) (aj))))) (aj)))) (aj))))) (cj [8] aV)))) (dM 7 (dM 6 (az (aW (bo (ae (bD bX rfl aK P7 (ae (aa (xv 6)) (aj))) (ae (bD bX rfl aK P7 (ae (aa (xv 7)) (aj))) (aj)))))))))))⟩
theorem m9{f__law_kind:Qj}{fd__law_kind:QR}(F__law_kind:xC K "_law_kind" "_law_kind" hZ f__law_kind fd__law_kind)(lB:Binds K fd__law_kind ["_law_x","_law_base","_law_deep"] [])(m__law_kind:mg "_law_kind"=some (.ref f__law_kind)){f__law_form:Qj}{fd__law_form:QR}(F__law_form:xC K "_law_form" "_law_form" hJ f__law_form fd__law_form)(lE:Binds K fd__law_form ["_law_x","_law_base","_law_start","_law_many","_law_more","_law_deep"] [])(m__law_form:mg "_law_form"=some (.ref f__law_form))(cQ:Callee P w K mg base 1 "_law_plain" ["_law_x"] (bi cR 1 8))(ay:Callee P w K mg base 1 "_law_next" ["_law_x"] (bi aG 1 1))(cm:Callee P w K mg base 1 "_law_name" ["_law_base","_law_k"] (bi bU 2 7))(bC:mg "range"=none)(aK:mg "tuple"=none):∀n:Nat,Callee P w K mg base (1+n) "_law_kind" ["_law_x","_law_base","_law_deep"] (bg n)/\Callee P w K mg base (1+n) "_law_form" ["_law_x","_law_base","_law_start","_law_many","_law_more","_law_deep"] (aN n)
 |0=>by
  rw[bg];rw[aN];exact⟨fE 1 F__law_kind lB m__law_kind,fE 1 F__law_form lE m__law_form⟩
 |n+1=>by
  have ih:=m9 F__law_kind lB m__law_kind F__law_form lE m__law_form cQ ay cm bC aK n;rw[eM];rw[gH];exact⟨bA F__law_kind lB m__law_kind vA (cV.ok (vv cQ ay cm bC aK ih.1 (lr n) ih.2 (fV n))),bA F__law_form lE m__law_form uV (cV.ok (vo cQ ay cm bC aK ih.1 (lr n) ih.2 (fV n)))⟩
theorem nB{f:Qj}(dR:mg "sorted"=none)(ik:mg "list"=none):cV P w K mg base 0 ["_law_x","_law_letters","_law_one","_law_other","_law_kept","_law_word"] "_law_some_words" eB f dj:=
 ⟨λcdv A outer s H E hr hp=>(ao (aC (i:=1) nE.nd rfl ‹1› (cK)) (ao (aC (i:=2) nE.nd rfl ‹1› (aB (aa (xv 1)) (aq bj bn (aa (xv 0)) (ai)) (λ_ _=>rfl))) (ao (aC (i:=3) nE.nd rfl ‹1› (aB (aa (xv 1)) (aq bj bn (aq bf bM (aa (xv 0)) (ai)) (ai)) (λ_ _=>rfl))) (ao (eX (i:=4) nE.nd rfl ‹1› (oC)) (cj [0,1] (ao (dY hp rfl (cn (du (ae (cK) (ae (aa (xv 2)) (ae (aa (xv 3)) (ae (aq aR au (aa (xv 2)) (aa (xv 3))) (ae (aq aR au (aa (xv 3)) (aa (xv 2))) (ae (aq nO au (aa (xv 2)) (ai)) (ae (aq aR au (aa (xv 2)) (aa (xv 2))) (ae (aq nO au (aa (xv 3)) (ai)) (aj))))))))))) (aP (i:=5) nE.nd rfl ‹1›) (ao (rW (hr.units) (xv 4) (aa (xv 5)) (gK)) (cj [5] aV))) (dM 4 (az (aW (bu kj rfl dR iA (ae (bD (rE rfl) rfl ik P8 (ae (aa (xv 4)) (aj))) (aj))))))))))))⟩
theorem nN{f:Qj}(ay:Callee P w K mg base 1 "_law_next" ["_law_x"] (bi aG 1 1))(fO:Callee P w K mg base 1 "_law_some_words" ["_law_x"] (bi dj 1 6))(bN:mg "len"=none)(aK:mg "tuple"=none)(iY:mg "enumerate"=none):cV P w K mg base 1 ["_law_x","_law_y","_law_low","_law_wide","_law_far","_law_one","_law_other","_law_some","_law_spare"] "_law_two_kinds" eO f dA:=
 ⟨λcdv A outer s H E hr hp=>(ao (aC (i:=1) nJ.nd rfl ‹1› (ax ay aU hr ‹0› (ae (aa (xv 0)) (aj)))) (ao (aC (i:=2) nJ.nd rfl ‹1› (aB (du (ae (ai) (ae (zA (ai)) (ae (aq qU qT (ai) (aq bj bn (aq gg gz (aa (xv 1)) (ai)) (aq gg gz (ai) (ai)))) (ae (aq bj bn (aq gg gz (aa (xv 1)) (ai)) (aq gg gz (ai) (ai))) (aj)))))) (aq bj bn (aq bf bM (aa (xv 0)) (ai)) (ai)) (λ_ _=>rfl))) (ao (aC (i:=3) nJ.nd rfl ‹1› (aB (du (ae (ai) (ae (ai) (ae (ai) (ae (aq gg gz (ai) (ai)) (aj)))))) (aq bj bn (aq bf bM (aa (xv 0)) (ai)) (ai)) (λ_ _=>rfl))) (ao (aC (i:=4) nJ.nd rfl ‹1› (aq bj bn (aq gg gz (aa (xv 1)) (ai)) (aq aR au (aa (xv 3)) (ai)))) (ao (aC (i:=5) nJ.nd rfl ‹1› (bo (ae (cK) (ae (aa (xv 2)) (ae (aq aR au (aa (xv 2)) (aa (xv 3))) (aj)))))) (ao (aC (i:=6) nJ.nd rfl ‹1› (bo (ae (cK) (ae (aq aR au (aa (xv 2)) (aa (xv 4))) (ae (aq aR au (aq aR au (aa (xv 2)) (aa (xv 4))) (aB (du (ae (ai) (ae (ai) (ae (ai) (ae (aq gg gz (ai) (ai)) (aj)))))) (aq bj bn (aq bf bM (aa (xv 0)) (ai)) (ai)) (λ_ _=>rfl))) (aj)))))) (ao (ca (bv (cX hr.units) au (aq bj bn (aa (xv 0)) (ai)) (ai) (cf _)) (ao (aC (i:=7) nJ.nd rfl ‹1› (ax fO aU hr ‹0› (ae (aq bf bM (aa (xv 0)) (ai)) (aj)))) (ao (aC (i:=8) nJ.nd rfl ‹1› (aB (aa (xv 7)) (aq bj bn (aa (xv 1)) (bu bY rfl bN PySem.boot_len (ae (aa (xv 7)) (aj)))) (λ_ _=>rfl))) (ao (aC (i:=5) nJ.nd rfl ‹1› (bo (ae (cK) (ae (bD bX rfl aK P7 (ae (fm (N:=["_law_k","_law_word","_law_spare","_law_y"]) (ix:=[none,none,some 8,some 1]) rfl (.of rfl) (rY rfl) (m7 rfl iY (ae (aa (xv 7)) (aj))) ⟨λ_ _ _ _ _ _=>⟨kD (g:=nH [0,1]) rfl (cI (aP (i:=0) EL rfl (Or.inl rfl)) (cI (aP (i:=1) EL rfl (Or.inl rfl)) (iQ))),ic (De (pA (bv (cX hr.units) au (aa (xv 1)) (aa (xv 2)) (cf _)) (mG (bv (cX hr.units) au (aq xH xM (aq yd yh (aq bf bM (aa (xv 3)) (ai)) (aa (xv 0))) (ai)) (ai) (cf _))))),aa (xv 1)⟩⟩) (aj))) (aj))))) (az (aC (i:=6) nJ.nd rfl ‹1› (bo (ae (cK) (ae (bD bX rfl aK P7 (ae (fm (N:=["_law_k","_law_word","_law_spare","_law_y"]) (ix:=[none,none,some 8,some 1]) rfl (.of rfl) (rY rfl) (m7 rfl iY (ae (aa (xv 7)) (aj))) ⟨λ_ _ _ _ _ _=>⟨kD (g:=nH [0,1]) rfl (cI (aP (i:=0) EG rfl (Or.inl rfl)) (cI (aP (i:=1) EG rfl (Or.inl rfl)) (iQ))),ic (De (pA (bv (cX hr.units) au (aa (xv 1)) (aa (xv 2)) (cf _)) (mG (bv (cX hr.units) au (aq xH xM (aq yd yh (aq bf bM (aa (xv 3)) (ai)) (aa (xv 0))) (ai)) (ai) (cf _))))),aa (xv 1)⟩⟩) (aj))) (aj))))))))) (aV)) (ao (ca (bv (cX hr.units) au (aq bj bn (aq bf bM (aa (xv 0)) (ai)) (ai)) (ai) (cf _)) (az (aW (bo (ae (aa (xv 6)) (ae (aa (xv 5)) (aj)))))) (aV)) (az (aW (bo (ae (aa (xv 5)) (ae (aa (xv 6)) (aj))))))))))))))⟩
theorem oI{f:Qj}(ay:Callee P w K mg base 1 "_law_next" ["_law_x"] (bi aG 1 1))(gS:Callee P w K mg base 2 "_law_two_kinds" ["_law_x"] (bi dA 1 9))(cm:Callee P w K mg base 1 "_law_name" ["_law_base","_law_k"] (bi bU 2 7))(bC:mg "range"=none)(aK:mg "tuple"=none):cV P w K mg base 2 ["_law_x","_law_base","_law_many","_law_one","_law_other","_law_k","_law_kinds"] "_law_two_keys" e6 f dP:=
 ⟨λcdv A outer s H E hr hp=>(ao (eX (i:=3) o4.nd rfl ‹1› (jb (aj))) (ao (eX (i:=4) o4.nd rfl ‹1› (jb (aj))) (ao (dY hp rfl (gC rfl bC (ae (aa (xv 2)) (aj))) (aP (i:=5) o4.nd rfl ‹1›) (ao (aC (i:=0) o4.nd rfl ‹1› (ax ay aU hr ‹0› (ae (aa (xv 0)) (aj)))) (ao (aC (i:=6) o4.nd rfl ‹1› (ax gS aU hr ‹0› (ae (aa (xv 0)) (aj)))) (ao (jl Qe Qf cY dS (xv 3) (ae (bo (ae (ax cm aU hr ‹0› (ae (aa (xv 1)) (ae (aa (xv 5)) (aj)))) (ae (aB (aa (xv 6)) (ai) (λ_ _=>rfl)) (aj)))) (aj))) (ao (jl Qe Qf cY dS (xv 4) (ae (bo (ae (ax cm aU hr ‹0› (ae (aa (xv 1)) (ae (aa (xv 5)) (aj)))) (ae (aB (aa (xv 6)) (ai) (λ_ _=>rfl)) (aj)))) (aj))) (cj [5,6] aV)))))) (dM 4 (dM 3 (az (aW (bo (ae (bD bX rfl aK P7 (ae (aa (xv 3)) (aj))) (ae (bD bX rfl aK P7 (ae (aa (xv 4)) (aj))) (aj)))))))))))⟩
theorem lN{f:Qj}(de:Callee P w K mg base 2 "_law_seed" ["_law_script","_law_k"] (bi cH 2 3))(dC:Callee P w K mg base 1 "_law_cell_at" ["_law_script","_law_k"] (bi dD 2 2))(ir:Callee P w K mg base 3 "_law_two_keys" ["_law_x","_law_base","_law_many"] (bi dP 3 7))(ay:Callee P w K mg base 1 "_law_next" ["_law_x"] (bi aG 1 1))(eI:Callee P w K mg base 13 "_law_form" ["_law_x","_law_base","_law_start","_law_many","_law_more","_law_deep"] (aN 12)):cV P w K mg base 13 ["_law_script","_law_x","_law_base","_law_keys","_law_deep","_law_more","_law_first","_law_last"] "_law_joined_forms" dr f cN:=
 ⟨λcdv A outer s H E hr hp=>(ao (aC (i:=1) kZ.nd rfl ‹1› (ax de aU hr ‹0› (ae (aa (xv 0)) (ae (ai) (aj))))) (ao (aC (i:=2) kZ.nd rfl ‹1› (aq bj bn (aq kr ko (ax dC aU hr ‹0› (ae (aa (xv 0)) (ae (ai) (aj)))) (ai)) (ai))) (ao (aC (i:=3) kZ.nd rfl ‹1› (ax ir aU hr ‹0› (ae (ax ay aU hr ‹0› (ae (aa (xv 1)) (aj))) (ae (aa (xv 2)) (ae (aB (du (ae (ai) (ae (ai) (ae (ai) (ae (ai) (ae (ai) (ae (ai) (ae (ai) (ae (aq aR au (ai) (aq bj bn (aq bf bM (aa (xv 1)) (ai)) (ai))) (aj)))))))))) (aq bj bn (aa (xv 1)) (ai)) (λ_ _=>rfl)) (aj)))))) (ao (aC (i:=4) kZ.nd rfl ‹1› (aB (du (ae (ai) (ae (ai) (ae (ai) (ae (ai) (aj)))))) (aq bj bn (aq bf bM (aa (xv 1)) (ai)) (ai)) (λ_ _=>rfl))) (ao (aC (i:=5) kZ.nd rfl ‹1› (du (ae (aq bj bn (aq bf bM (aa (xv 1)) (ai)) (ai)) (ae (aq bj bn (aq bf bM (aa (xv 1)) (ai)) (ai)) (aj))))) (ao (ca (bv (cX hr.units) au (aq bj bn (aq bf bM (aa (xv 1)) (ai)) (ai)) (ai) (cf _)) (ao (aC (i:=5) kZ.nd rfl ‹1› (du (ae (aq bj bn (aq bf bM (aa (xv 1)) (ai)) (ai)) (ae (aq qU qT (ai) (aq bj bn (aq bf bM (aa (xv 1)) (ai)) (ai))) (aj))))) (az (aC (i:=4) kZ.nd rfl ‹1› (ai)))) (aV)) (ao (aC (i:=6) kZ.nd rfl ‹1› (aB (ax eI (fV 12) hr ‹0› (ae (aq aR au (ax ay aU hr ‹0› (ae (aa (xv 1)) (aj))) (ai)) (ae (aa (xv 2)) (ae (ai) (ae (ai) (ae (aB (aa (xv 5)) (ai) (λ_ _=>rfl)) (ae (aa (xv 4)) (aj)))))))) (ai) (λ_ _=>rfl))) (ao (aC (i:=7) kZ.nd rfl ‹1› (aB (ax eI (fV 12) hr ‹0› (ae (aq aR au (ax ay aU hr ‹0› (ae (aa (xv 1)) (aj))) (ai)) (ae (aa (xv 2)) (ae (ai) (ae (ai) (ae (aB (aa (xv 5)) (ai) (λ_ _=>rfl)) (ae (aa (xv 4)) (aj)))))))) (ai) (λ_ _=>rfl))) (az (aW (bo (ae (bo (ae (aB (aa (xv 3)) (ai) (λ_ _=>rfl)) (ae (aa (xv 6)) (aj)))) (ae (bo (ae (aB (aa (xv 3)) (ai) (λ_ _=>rfl)) (ae (aa (xv 7)) (aj)))) (aj))))))))))))))⟩
theorem Gz{f:Qj}{fd:QR}(F:xC K "law" "law" qO f fd)(eU:Callee P w K mg base 14 "_law_joined_forms" ["_law_script"] (bi cN 1 8))(eG:Callee P w K mg base 15 "_law_joined_tables" ["_law_one","_law_other","_law_script","_law_start","_law_most"] (bi cG 5 12))(lK:Callee P w K mg base 15 "_law_view" ["_law_one","_law_other","_law_tables","_law_x"] (bi h7 4 10))(ay:Callee P w K mg base 1 "_law_next" ["_law_x"] (bi aG 1 1))(de:Callee P w K mg base 2 "_law_seed" ["_law_script","_law_k"] (bi cH 2 3))(cP:Callee P w K mg base 12 "_law_alike" ["_law_found","_law_due_here"] (bb 12))(j3:Callee P w K mg base 2 "_law_due" ["_law_one","_law_other","_law_tables","_law_view_here"] (bi fw 4 11))(gh:nh P w K mg base 15 "put" ["self","forms","tables","view"] [("Pair",(bi fe 4 4)),("Join",(bi dq 4 10))])(gE:nh P w K mg base 15 "got" ["self","forms","tables"] [("Pair",(bi fj 3 3)),("Join",(bi dH 3 5))])(N_Join:yV K mg "Join"):mU P w K mg base (nF P w) 16 f fd ["_law_script"] (Bd K 1 (bi rd 1 8)):=
 vg (k:=15) F GD (cV.ok ⟨λcdv A outer s H E hr hp=>(ao (DF (ax eU aU hr ‹0› (ae (aa (xv 0)) (aj))) (kD (g:=nH [1,2]) rfl (cI (aP (i:=1) GD.nd rfl ‹1›) (cI (aP (i:=2) GD.nd rfl ‹1›) (iQ))))) (ao (aC (i:=3) GD.nd rfl ‹1› (ax eG aU hr ‹0› (ae (aa (xv 1)) (ae (aa (xv 2)) (ae (aa (xv 0)) (ae (ai) (ae (ai) (aj)))))))) (ao (aC (i:=4) GD.nd rfl ‹1› (ax lK aU hr ‹0› (ae (aa (xv 1)) (ae (aa (xv 2)) (ae (aa (xv 3)) (ae (ax ay aU hr ‹0› (ae (ax de aU hr ‹0› (ae (aa (xv 0)) (ae (ai) (aj)))) (aj))) (aj))))))) (ao (aC (i:=5) GD.nd rfl ‹1› (CY N_Join rfl)) (ao (aC (i:=6) GD.nd rfl ‹1› (jG gh hr ‹0› (aa (xv 5)) (ae (bo (ae (aa (xv 1)) (ae (aa (xv 2)) (aj)))) (ae (aa (xv 3)) (ae (aa (xv 4)) (aj)))))) (ao (ca (mO (dE (ax cP (cZ 12) hr ‹0› (ae (aa (xv 6)) (ae (ax j3 aU hr ‹0› (ae (aa (xv 1)) (ae (aa (xv 2)) (ae (aa (xv 3)) (ae (aa (xv 4)) (aj)))))) (aj)))))) (az (aW (gK))) (aV)) (ao (ca (mO (dE (ax cP (cZ 12) hr ‹0› (ae (jG gE hr ‹0› (aa (xv 5)) (ae (bo (ae (aa (xv 1)) (ae (aa (xv 2)) (aj)))) (ae (aa (xv 6)) (aj)))) (ae (aa (xv 4)) (aj)))))) (az (aW (gK))) (aV)) (ao (aC (i:=7) GD.nd rfl ‹1› (jG gh hr ‹0› (aa (xv 5)) (ae (bo (ae (aa (xv 1)) (ae (aa (xv 2)) (aj)))) (ae (bo (ae (bo (aj)) (ae (bo (aj)) (aj)))) (ae (aa (xv 4)) (aj)))))) (ao (ca (mO (dE (ax cP (cZ 12) hr ‹0› (ae (aa (xv 7)) (ae (ax j3 aU hr ‹0› (ae (aa (xv 1)) (ae (aa (xv 2)) (ae (bo (ae (bo (aj)) (ae (bo (aj)) (aj)))) (ae (aa (xv 4)) (aj)))))) (aj)))))) (az (aW (gK))) (aV)) (ao (ca (mO (dE (ax cP (cZ 12) hr ‹0› (ae (jG gE hr ‹0› (aa (xv 5)) (ae (bo (ae (aa (xv 1)) (ae (aa (xv 2)) (aj)))) (ae (aa (xv 7)) (aj)))) (ae (aa (xv 4)) (aj)))))) (az (aW (gK))) (aV)) (az (aW (ax cP (cZ 12) hr ‹0› (ae (jG gh hr ‹0› (aa (xv 5)) (ae (bo (ae (aa (xv 1)) (ae (aa (xv 2)) (aj)))) (ae (aa (xv 3)) (ae (jG gE hr ‹0› (aa (xv 5)) (ae (bo (ae (aa (xv 1)) (ae (aa (xv 2)) (aj)))) (ae (aa (xv 3)) (aj)))) (aj))))) (ae (aa (xv 3)) (aj))))))))))))))))⟩)
end
theorem Bq{us:List Qg}(h:us.length=1):∃u0,us=[u0]:=match us,h with|[u0],_=>⟨u0,rfl⟩
theorem p8{us:List Qg}(h:us.length=2):∃u0 u1,us=[u0,u1]:=match us,h with|[u0,u1],_=>⟨u0,u1,rfl⟩
theorem zU{us:List Qg}(h:us.length=3):∃u0 u1 u2,us=[u0,u1,u2]:=match us,h with|[u0,u1,u2],_=>⟨u0,u1,u2,rfl⟩
theorem BW{us:List Qg}(h:us.length=4):∃u0 u1 u2 u3,us=[u0,u1,u2,u3]:=match us,h with|[u0,u1,u2,u3],_=>⟨u0,u1,u2,u3,rfl⟩
theorem Kp{us:List Qg}(h:us.length=5):∃u0 u1 u2 u3 u4,us=[u0,u1,u2,u3,u4]:=match us,h with|[u0,u1,u2,u3,u4],_=>⟨u0,u1,u2,u3,u4,rfl⟩
theorem JZ{us:List Qg}(h:us.length=6):∃u0 u1 u2 u3 u4 u5,us=[u0,u1,u2,u3,u4,u5]:=match us,h with|[u0,u1,u2,u3,u4,u5],_=>⟨u0,u1,u2,u3,u4,u5,rfl⟩
theorem all_mk{l:Px}{w:Qh}{K:OZ}{h:Ql}{mg:Str->Option Qg}{fa:Qj}(X:K.In h)(G:h.Ns Qo mg)(hfa:mg "law"=some (.ref fa)){f1 f2:Qj}
  (ac0:Pm K Qo "Pair"=some (some (.ref Cl0)))
  (ac1:Pm K Qo "Join"=some (some (.ref Cl1)))
  (a0:Pm K Qo "_law_alike"=some (some (.ref f0)))
  (l0:Lk K f0 "_law_alike" "_law_alike" fN oc0 od0 kV0 dc0 pm0 an0 cd0 ct0 sl0)
  (c0:Pl K cd0 "_law_alike"=true)
  (k0:Ph K (.ref f0)=true)
  (a1:O2 K (.ref Cl0) "put"=some (some (.ref f1)))
  (i1:O3 K (.ref f1)=true)
  (l1:Lk K f1 "put" "Pair.put" kG oc1 od1 kV1 dc1 pm1 an1 cd1 ct1 sl1)
  (c1:Pl K cd1 "Pair.put"=true)
  (k1:Ph K (.ref f1)=true)
  (a2:Pm K Qo "sorted_by"=some (some (.ref f2)))
  (l2:Lk K f2 "sorted_by" "sorted_by" i9 oc2 od2 kV2 dc2 pm2 an2 cd2 ct2 sl2)
  (c2:Pl K cd2 "sorted_by"=true)
  (k2:Ph K (.ref f2)=true)
  (a3:Pm K Qo "by_key"=some (some (.ref f3)))
  (l3:Lk K f3 "by_key" "by_key" n9 oc3 od3 kV3 dc3 pm3 an3 cd3 ct3 sl3)
  (c3:Pl K cd3 "by_key"=true)
  (k3:Ph K (.ref f3)=true)
  (a4:Pm K Qo "standing"=some (some (.ref f4)))
  (l4:Lk K f4 "standing" "standing" kE oc4 od4 kV4 dc4 pm4 an4 cd4 ct4 sl4)
  (c4:Pl K cd4 "standing"=true)
  (k4:Ph K (.ref f4)=true)
  (a5:O2 K (.ref Cl1) "put"=some (some (.ref f5)))
  (i5:O3 K (.ref f5)=true)
  (l5:Lk K f5 "put" "Join.put" jX oc5 od5 kV5 dc5 pm5 an5 cd5 ct5 sl5)
  (c5:Pl K cd5 "Join.put"=true)
  (k5:Ph K (.ref f5)=true)
  (a6:O2 K (.ref Cl0) "got"=some (some (.ref f6)))
  (i6:O3 K (.ref f6)=true)
  (l6:Lk K f6 "got" "Pair.got" jW oc6 od6 kV6 dc6 pm6 an6 cd6 ct6 sl6)
  (c6:Pl K cd6 "Pair.got"=true)
  (k6:Ph K (.ref f6)=true)
  (a7:O2 K (.ref Cl1) "got"=some (some (.ref f7)))
  (i7:O3 K (.ref f7)=true)
  (l7:Lk K f7 "got" "Join.got" kn oc7 od7 kV7 dc7 pm7 an7 cd7 ct7 sl7)
  (c7:Pl K cd7 "Join.got"=true)
  (k7:Ph K (.ref f7)=true)
  (a8:Pm K Qo "_law_sorted"=some (some (.ref f8)))
  (l8:Lk K f8 "_law_sorted" "_law_sorted" gU oc8 od8 kV8 dc8 pm8 an8 cd8 ct8 sl8)
  (c8:Pl K cd8 "_law_sorted"=true)
  (k8:Ph K (.ref f8)=true)
  (a9:Pm K Qo "_law_due"=some (some (.ref f9)))
  (l9:Lk K f9 "_law_due" "_law_due" kB oc9 od9 kV9 dc9 pm9 an9 cd9 ct9 sl9)
  (c9:Pl K cd9 "_law_due"=true)
  (k9:Ph K (.ref f9)=true)
  (a10:Pm K Qo "_law_next"=some (some (.ref f10)))
  (l10:Lk K f10 "_law_next" "_law_next" jc oc10 od10 kV10 dc10 pm10 an10 cd10 ct10 sl10)
  (c10:Pl K cd10 "_law_next"=true)
  (k10:Ph K (.ref f10)=true)
  (a11:Pm K Qo "_law_value"=some (some (.ref f11)))
  (l11:Lk K f11 "_law_value" "_law_value" fF oc11 od11 kV11 dc11 pm11 an11 cd11 ct11 sl11)
  (c11:Pl K cd11 "_law_value"=true)
  (k11:Ph K (.ref f11)=true)
  (a12:Pm K Qo "_law_row"=some (some (.ref f12)))
  (l12:Lk K f12 "_law_row" "_law_row" iT oc12 od12 kV12 dc12 pm12 an12 cd12 ct12 sl12)
  (c12:Pl K cd12 "_law_row"=true)
  (k12:Ph K (.ref f12)=true)
  (a13:Pm K Qo "_law_rows"=some (some (.ref f13)))
  (l13:Lk K f13 "_law_rows" "_law_rows" ia oc13 od13 kV13 dc13 pm13 an13 cd13 ct13 sl13)
  (c13:Pl K cd13 "_law_rows"=true)
  (k13:Ph K (.ref f13)=true)
  (a14:Pm K Qo "_law_values"=some (some (.ref f14)))
  (l14:Lk K f14 "_law_values" "_law_values" gV oc14 od14 kV14 dc14 pm14 an14 cd14 ct14 sl14)
  (c14:Pl K cd14 "_law_values"=true)
  (k14:Ph K (.ref f14)=true)
  (a15:Pm K Qo "_law_fit"=some (some (.ref f15)))
  (l15:Lk K f15 "_law_fit" "_law_fit" kc oc15 od15 kV15 dc15 pm15 an15 cd15 ct15 sl15)
  (c15:Pl K cd15 "_law_fit"=true)
  (k15:Ph K (.ref f15)=true)
  (a16:Pm K Qo "_law_in_both"=some (some (.ref f16)))
  (l16:Lk K f16 "_law_in_both" "_law_in_both" fU oc16 od16 kV16 dc16 pm16 an16 cd16 ct16 sl16)
  (c16:Pl K cd16 "_law_in_both"=true)
  (k16:Ph K (.ref f16)=true)
  (a17:Pm K Qo "_law_key_of_both"=some (some (.ref f17)))
  (l17:Lk K f17 "_law_key_of_both" "_law_key_of_both" dI oc17 od17 kV17 dc17 pm17 an17 cd17 ct17 sl17)
  (c17:Pl K cd17 "_law_key_of_both"=true)
  (k17:Ph K (.ref f17)=true)
  (a18:Pm K Qo "_law_view"=some (some (.ref f18)))
  (l18:Lk K f18 "_law_view" "_law_view" jd oc18 od18 kV18 dc18 pm18 an18 cd18 ct18 sl18)
  (c18:Pl K cd18 "_law_view"=true)
  (k18:Ph K (.ref f18)=true)
  (a19:Pm K Qo "_law_cell_at"=some (some (.ref f19)))
  (l19:Lk K f19 "_law_cell_at" "_law_cell_at" fY oc19 od19 kV19 dc19 pm19 an19 cd19 ct19 sl19)
  (c19:Pl K cd19 "_law_cell_at"=true)
  (k19:Ph K (.ref f19)=true)
  (a20:Pm K Qo "_law_seed"=some (some (.ref f20)))
  (l20:Lk K f20 "_law_seed" "_law_seed" jh oc20 od20 kV20 dc20 pm20 an20 cd20 ct20 sl20)
  (c20:Pl K cd20 "_law_seed"=true)
  (k20:Ph K (.ref f20)=true)
  (a21:Pm K Qo "_law_joined_tables"=some (some (.ref f21)))
  (l21:Lk K f21 "_law_joined_tables" "_law_joined_tables" df oc21 od21 kV21 dc21 pm21 an21 cd21 ct21 sl21)
  (c21:Pl K cd21 "_law_joined_tables"=true)
  (k21:Ph K (.ref f21)=true)
  (a22:Pm K Qo "_law_name"=some (some (.ref f22)))
  (l22:Lk K f22 "_law_name" "_law_name" jf oc22 od22 kV22 dc22 pm22 an22 cd22 ct22 sl22)
  (c22:Pl K cd22 "_law_name"=true)
  (k22:Ph K (.ref f22)=true)
  (a23:Pm K Qo "_law_plain"=some (some (.ref f23)))
  (l23:Lk K f23 "_law_plain" "_law_plain" iC oc23 od23 kV23 dc23 pm23 an23 cd23 ct23 sl23)
  (c23:Pl K cd23 "_law_plain"=true)
  (k23:Ph K (.ref f23)=true)
  (a24:Pm K Qo "_law_kind"=some (some (.ref f24)))
  (l24:Lk K f24 "_law_kind" "_law_kind" hZ oc24 od24 kV24 dc24 pm24 an24 cd24 ct24 sl24)
  (c24:Pl K cd24 "_law_kind"=true)
  (k24:Ph K (.ref f24)=true)
  (a25:Pm K Qo "_law_form"=some (some (.ref f25)))
  (l25:Lk K f25 "_law_form" "_law_form" hJ oc25 od25 kV25 dc25 pm25 an25 cd25 ct25 sl25)
  (c25:Pl K cd25 "_law_form"=true)
  (k25:Ph K (.ref f25)=true)
  (a26:Pm K Qo "_law_some_words"=some (some (.ref f26)))
  (l26:Lk K f26 "_law_some_words" "_law_some_words" eB oc26 od26 kV26 dc26 pm26 an26 cd26 ct26 sl26)
  (c26:Pl K cd26 "_law_some_words"=true)
  (k26:Ph K (.ref f26)=true)
  (a27:Pm K Qo "_law_two_kinds"=some (some (.ref f27)))
  (l27:Lk K f27 "_law_two_kinds" "_law_two_kinds" eO oc27 od27 kV27 dc27 pm27 an27 cd27 ct27 sl27)
  (c27:Pl K cd27 "_law_two_kinds"=true)
  (k27:Ph K (.ref f27)=true)
  (a28:Pm K Qo "_law_two_keys"=some (some (.ref f28)))
  (l28:Lk K f28 "_law_two_keys" "_law_two_keys" e6 oc28 od28 kV28 dc28 pm28 an28 cd28 ct28 sl28)
  (c28:Pl K cd28 "_law_two_keys"=true)
  (k28:Ph K (.ref f28)=true)
  (a29:Pm K Qo "_law_joined_forms"=some (some (.ref f29)))
  (l29:Lk K f29 "_law_joined_forms" "_law_joined_forms" dr oc29 od29 kV29 dc29 pm29 an29 cd29 ct29 sl29)
  (c29:Pl K cd29 "_law_joined_forms"=true)
  (k29:Ph K (.ref f29)=true)
  (a30:Pm K Qo "law"=some (some (.ref f30)))
  (l30:Lk K f30 "law" "law" qO oc30 od30 kV30 dc30 pm30 an30 cd30 ct30 sl30)
  (c30:Pl K cd30 "law"=true)
  (k30:Ph K (.ref f30)=true)
  (p0:O1 K Cl0 Str.empty=true)
  (q0:Pa K Cl0=true)
  (r0:Pb K Cl0=true)
  (s0:O2 K (.ref Cl0) "__setattr__"=some (some (.builtin "object.__setattr__")))
  (p1:O1 K Cl1 Str.empty=true)
  (q1:Pa K Cl1=true)
  (r1:Pb K Cl1=true)
  (s1:O2 K (.ref Cl1) "__setattr__"=some (some (.builtin "object.__setattr__")))
  (o1:O2 K (.ref Cl1) "__init__"=some (some (.builtin "object.__init__")))
  (m1:O6 K Cl1=true)
  (kp1:Ph K (.ref Cl1)=true)
  (z0:Pm K Qo "isinstance"=some none)
  (z1:Pm K Qo "str"=some none)
  (z2:Pm K Qo "bool"=some none)
  (z3:Pm K Qo "int"=some none)
  (z4:Pm K Qo "tuple"=some none)
  (z5:Pm K Qo "len"=some none)
  (z6:Pm K Qo "zip"=some none)
  (z7:Pm K Qo "sorted"=some none)
  (z8:Pm K Qo "dict"=some none)
  (z9:Pm K Qo "list"=some none)
  (z10:Pm K Qo "max"=some none)
  (z11:Pm K Qo "range"=some none)
  (z12:Pm K Qo "min"=some none)
  (z13:Pm K Qo "enumerate"=some none)
  (lc:cd2=.ref cL)
  (lh:Pz K cL T=true)
  (lt:K.lookup T=none):
  (∃c,Pz K c T=true)/\K.lookup T=none/\∃fd:QR,(∀(s:Qs)(v:Qg),QS s fd ⟨[v],[]⟩ [("_law_script",v)])/\∀base:Ql,K.In base->base.Ns Qo mg->yq mg base->mU l.prog w K mg base (nF l.prog w) 16 fa fd ["_law_script"] (@Bd (uS T ⟨6,34,6,56⟩ ((("sorted_by":Str)++".<locals>.")++"<lambda>")) K 1 (bi rd 1 8)):=by
 letI:bc:=uS T ⟨6,34,6,56⟩ ((("sorted_by":Str)++".<locals>.")++"<lambda>")
 have e:=hfa.symm.trans (PB X G a30);cases e;have bQ:=PC X G z0;have qS:=PC X G z1;have kA:=PC X G z2;have gX:=PC X G z3;have aK:=PC X G z4;have bN:=PC X G z5;have kK:=PC X G z6;have dR:=PC X G z7;have yv:=PC X G z8;have ik:=PC X G z9;have iw:=PC X G z10;have bC:=PC X G z11;have sZ:=PC X G z12;have iY:=PC X G z13;have F0:=ce (st:=fN) l0 c0 k0;have b0:=F0.binds (ps:=["_law_found","_law_due_here"]) λ_ _ _ _ _ _ us hl=>by obtain⟨u0,u1,rfl⟩:=p8 hl;rfl
 have F1:=ce (st:=kG) l1 c1 k1;have b1:=F1.binds (ps:=["self","forms","tables","view"]) λ_ _ _ _ _ _ us hl=>by obtain⟨u0,u1,u2,u3,rfl⟩:=BW hl;rfl
 have F2:=ce (st:=i9) l2 c2 k2;have b2:=F2.binds (ps:=["many","rows"]) λ_ _ _ _ _ _ us hl=>by obtain⟨u0,u1,rfl⟩:=p8 hl;rfl
 have F3:=ce (st:=n9) l3 c3 k3;have b3:=F3.binds (ps:=["many","rows"]) λ_ _ _ _ _ _ us hl=>by obtain⟨u0,u1,rfl⟩:=p8 hl;rfl
 have F4:=ce (st:=kE) l4 c4 k4;have b4:=F4.binds (ps:=["many","rows","others"]) λ_ _ _ _ _ _ us hl=>by obtain⟨u0,u1,u2,rfl⟩:=zU hl;rfl
 have F5:=ce (st:=jX) l5 c5 k5;have b5:=F5.binds (ps:=["self","forms","tables","view"]) λ_ _ _ _ _ _ us hl=>by obtain⟨u0,u1,u2,u3,rfl⟩:=BW hl;rfl
 have F6:=ce (st:=jW) l6 c6 k6;have b6:=F6.binds (ps:=["self","forms","tables"]) λ_ _ _ _ _ _ us hl=>by obtain⟨u0,u1,u2,rfl⟩:=zU hl;rfl
 have F7:=ce (st:=kn) l7 c7 k7;have b7:=F7.binds (ps:=["self","forms","tables"]) λ_ _ _ _ _ _ us hl=>by obtain⟨u0,u1,u2,rfl⟩:=zU hl;rfl
 have F8:=ce (st:=gU) l8 c8 k8;have b8:=F8.binds (ps:=["_law_many","_law_rows_here"]) λ_ _ _ _ _ _ us hl=>by obtain⟨u0,u1,rfl⟩:=p8 hl;rfl
 have F9:=ce (st:=kB) l9 c9 k9;have b9:=F9.binds (ps:=["_law_one","_law_other","_law_tables","_law_view_here"]) λ_ _ _ _ _ _ us hl=>by obtain⟨u0,u1,u2,u3,rfl⟩:=BW hl;rfl
 have F10:=ce (st:=jc) l10 c10 k10;have b10:=F10.binds (ps:=["_law_x"]) λ_ _ _ _ _ _ us hl=>by obtain⟨u0,rfl⟩:=Bq hl;rfl
 have F11:=ce (st:=fF) l11 c11 k11;have b11:=F11.binds (ps:=["_law_kind_here","_law_x"]) λ_ _ _ _ _ _ us hl=>by obtain⟨u0,u1,rfl⟩:=p8 hl;rfl
 have F12:=ce (st:=iT) l12 c12 k12;have b12:=F12.binds (ps:=["_law_form_here","_law_many","_law_head","_law_tail"]) λ_ _ _ _ _ _ us hl=>by obtain⟨u0,u1,u2,u3,rfl⟩:=BW hl;rfl
 have F13:=ce (st:=ia) l13 c13 k13;have b13:=F13.binds (ps:=["_law_form_here","_law_x","_law_many"]) λ_ _ _ _ _ _ us hl=>by obtain⟨u0,u1,u2,rfl⟩:=zU hl;rfl
 have F14:=ce (st:=gV) l14 c14 k14;have b14:=F14.binds (ps:=["_law_fields","_law_x"]) λ_ _ _ _ _ _ us hl=>by obtain⟨u0,u1,rfl⟩:=p8 hl;rfl
 have F15:=ce (st:=kc) l15 c15 k15;have b15:=F15.binds (ps:=["_law_fields","_law_key"]) λ_ _ _ _ _ _ us hl=>by obtain⟨u0,u1,rfl⟩:=p8 hl;rfl
 have F16:=ce (st:=fU) l16 c16 k16;have b16:=F16.binds (ps:=["_law_one","_law_other"]) λ_ _ _ _ _ _ us hl=>by obtain⟨u0,u1,rfl⟩:=p8 hl;rfl
 have F17:=ce (st:=dI) l17 c17 k17;have b17:=F17.binds (ps:=["_law_one","_law_other"]) λ_ _ _ _ _ _ us hl=>by obtain⟨u0,u1,rfl⟩:=p8 hl;rfl
 have F18:=ce (st:=jd) l18 c18 k18;have b18:=F18.binds (ps:=["_law_one","_law_other","_law_tables","_law_x"]) λ_ _ _ _ _ _ us hl=>by obtain⟨u0,u1,u2,u3,rfl⟩:=BW hl;rfl
 have F19:=ce (st:=fY) l19 c19 k19;have b19:=F19.binds (ps:=["_law_script","_law_k"]) λ_ _ _ _ _ _ us hl=>by obtain⟨u0,u1,rfl⟩:=p8 hl;rfl
 have F20:=ce (st:=jh) l20 c20 k20;have b20:=F20.binds (ps:=["_law_script","_law_k"]) λ_ _ _ _ _ _ us hl=>by obtain⟨u0,u1,rfl⟩:=p8 hl;rfl
 have F21:=ce (st:=df) l21 c21 k21;have b21:=F21.binds (ps:=["_law_one","_law_other","_law_script","_law_start","_law_most"]) λ_ _ _ _ _ _ us hl=>by obtain⟨u0,u1,u2,u3,u4,rfl⟩:=Kp hl;rfl
 have F22:=ce (st:=jf) l22 c22 k22;have b22:=F22.binds (ps:=["_law_base","_law_k"]) λ_ _ _ _ _ _ us hl=>by obtain⟨u0,u1,rfl⟩:=p8 hl;rfl
 have F23:=ce (st:=iC) l23 c23 k23;have b23:=F23.binds (ps:=["_law_x"]) λ_ _ _ _ _ _ us hl=>by obtain⟨u0,rfl⟩:=Bq hl;rfl
 have F24:=ce (st:=hZ) l24 c24 k24;have b24:=F24.binds (ps:=["_law_x","_law_base","_law_deep"]) λ_ _ _ _ _ _ us hl=>by obtain⟨u0,u1,u2,rfl⟩:=zU hl;rfl
 have F25:=ce (st:=hJ) l25 c25 k25;have b25:=F25.binds (ps:=["_law_x","_law_base","_law_start","_law_many","_law_more","_law_deep"]) λ_ _ _ _ _ _ us hl=>by obtain⟨u0,u1,u2,u3,u4,u5,rfl⟩:=JZ hl;rfl
 have F26:=ce (st:=eB) l26 c26 k26;have b26:=F26.binds (ps:=["_law_x"]) λ_ _ _ _ _ _ us hl=>by obtain⟨u0,rfl⟩:=Bq hl;rfl
 have F27:=ce (st:=eO) l27 c27 k27;have b27:=F27.binds (ps:=["_law_x"]) λ_ _ _ _ _ _ us hl=>by obtain⟨u0,rfl⟩:=Bq hl;rfl
 have F28:=ce (st:=e6) l28 c28 k28;have b28:=F28.binds (ps:=["_law_x","_law_base","_law_many"]) λ_ _ _ _ _ _ us hl=>by obtain⟨u0,u1,u2,rfl⟩:=zU hl;rfl
 have F29:=ce (st:=dr) l29 c29 k29;have b29:=F29.binds (ps:=["_law_script"]) λ_ _ _ _ _ _ us hl=>by obtain⟨u0,rfl⟩:=Bq hl;rfl
 have F30:=ce (st:=qO) l30 c30 k30;have cl0:Fz K Cl0:=⟨p0,q0,r0,s0⟩
 have cl1:Fz K Cl1:=⟨p1,q1,r1,s1⟩
 have lC:ut K f2 (.ref cL):=⟨_,_,_,_,l2,lc⟩
 refine⟨⟨cL,lh⟩,lt,Pk "law" "law" (mz qO) (fT qO) (aA qO) .none kV30 dc30 pm30 an30 cd30 ct30,λs v=>.of_eq rfl,λbase kb _ bm=>?_⟩;have N_Join:yV K mg "Join":=⟨_,ac1,⟨m1,o1,kp1⟩,PB X G ac1⟩
 have fam:=lH (P:=l.prog) (w:=w) (base:=base) F0 b0 (PB X G a0) bQ qS kA gX aK bN kK 12;have cP:=fam;have okb_Pair_put:=wN (P:=l.prog) (w:=w) (base:=base) (K:=K) (mg:=mg) (f:=f1);have lD:=yI F2 b2 (PB X G a2) uJ (B7.ok (uG (P:=l.prog) (w:=w) (base:=base) (f:=f2) aK dR (D4 kb lh bm) lC λ_ z=>z));have fX:=bA F3 b3 (PB X G a3) Al (cV.ok (A1 (P:=l.prog) (w:=w) (base:=base) (f:=f3) yv));have j8:=bA F4 b4 (PB X G a4) wt (cV.ok (wf (P:=l.prog) (w:=w) (base:=base) (f:=f4) fX lD ik));have okb_Join_put:=xl (P:=l.prog) (w:=w) (base:=base) (K:=K) (mg:=mg) (f:=f5) fX j8 bN;have okb_Pair_got:=vP (P:=l.prog) (w:=w) (base:=base) (K:=K) (mg:=mg) (f:=f6);have okb_Join_got:=wg (P:=l.prog) (w:=w) (base:=base) (K:=K) (mg:=mg) (f:=f7) fX bN aK;have aX:=bA F8 b8 (PB X G a8) rp (cV.ok (qC (P:=l.prog) (w:=w) (base:=base) (f:=f8) aK dR ik));have j3:=bA F9 b9 (PB X G a9) xg (cV.ok (v4 (P:=l.prog) (w:=w) (base:=base) (f:=f9) aX bN));have ay:=bA F10 b10 (PB X G a10) uC (cV.ok (uH (P:=l.prog) (w:=w) (base:=base) (f:=f10) ));have fam:=ly (P:=l.prog) (w:=w) (base:=base) F11 b11 (PB X G a11) F12 b12 (PB X G a12) F13 b13 (PB X G a13) ay aX bN iw gX aK bC 12;have fI:=fam.1;have fu:=fam.2.1;have iZ:=fam.2.2;have cC:=bA F14 b14 (PB X G a14) rR (cV.ok (rH (P:=l.prog) (w:=w) (base:=base) (f:=f14) fu aK));have nD:=bA F15 b15 (PB X G a15) xn (cV.ok (xf (P:=l.prog) (w:=w) (base:=base) (f:=f15) kK));have iU:=bA F16 b16 (PB X G a16) p9 (cV.ok (pY (P:=l.prog) (w:=w) (base:=base) (f:=f16) sZ iw aK));have cB:=bA F17 b17 (PB X G a17) mX (cV.ok (mV (P:=l.prog) (w:=w) (base:=base) (f:=f17) iU kK aK));have lK:=bA F18 b18 (PB X G a18) uZ (cV.ok (uK (P:=l.prog) (w:=w) (base:=base) (f:=f18) cB ay cC nD aX bN bC));have dC:=bA F19 b19 (PB X G a19) p4 (cV.ok (pZ (P:=l.prog) (w:=w) (base:=base) (f:=f19) bN));have de:=bA F20 b20 (PB X G a20) uI (cV.ok (vn (P:=l.prog) (w:=w) (base:=base) (f:=f20) dC ay));have eG:=bA F21 b21 (PB X G a21) kN (cV.ok (kO (P:=l.prog) (w:=w) (base:=base) (f:=f21) cB de ay cC aX bC sZ iw bN));have cm:=bA F22 b22 (PB X G a22) vj (cV.ok (vk (P:=l.prog) (w:=w) (base:=base) (f:=f22) bC));have cQ:=bA F23 b23 (PB X G a23) sB (cV.ok (sA (P:=l.prog) (w:=w) (base:=base) (f:=f23) bC bN aK dR ik));have fam:=m9 (P:=l.prog) (w:=w) (base:=base) F24 b24 (PB X G a24) F25 b25 (PB X G a25) cQ ay cm bC aK 12;have li:=fam.1;have eI:=fam.2;have fO:=bA F26 b26 (PB X G a26) nE (cV.ok (nB (P:=l.prog) (w:=w) (base:=base) (f:=f26) dR ik));have gS:=bA F27 b27 (PB X G a27) nJ (cV.ok (nN (P:=l.prog) (w:=w) (base:=base) (f:=f27) ay fO bN aK iY));have ir:=bA F28 b28 (PB X G a28) o4 (cV.ok (oI (P:=l.prog) (w:=w) (base:=base) (f:=f28) ay gS cm bC aK));have eU:=bA F29 b29 (PB X G a29) kZ (cV.ok (lN (P:=l.prog) (w:=w) (base:=base) (f:=f29) de dC ir ay eI));have lJ:nh l.prog w K mg base 15 "put" ["self","forms","tables","view"] [("Pair",(bi fe 4 4)),("Join",(bi dq 4 10))]:=nU (MethAt.mono (mh (c:="Pair") (m:="put") ac0 cl0 ⟨a1,i1,k1⟩ F1 b1 wQ (cV.ok okb_Pair_put)) (by decide)) aU (nU (MethAt.mono (mh (c:="Join") (m:="put") ac1 cl1 ⟨a5,i5,k5⟩ F5 b5 wZ (cV.ok okb_Join_put)) (by decide)) aU (zv));have lF:nh l.prog w K mg base 15 "got" ["self","forms","tables"] [("Pair",(bi fj 3 3)),("Join",(bi dH 3 5))]:=nU (MethAt.mono (mh (c:="Pair") (m:="got") ac0 cl0 ⟨a6,i6,k6⟩ F6 b6 wC (cV.ok okb_Pair_got)) (by decide)) aU (nU (MethAt.mono (mh (c:="Join") (m:="got") ac1 cl1 ⟨a7,i7,k7⟩ F7 b7 vT (cV.ok okb_Join_got)) (by decide)) aU (zv));exact Gz (P:=l.prog) (w:=w) (base:=base) F30 eU eG lK ay de cP j3 lJ lF N_Join
theorem walk{l:Px}{q:Qi}{loose:List Str}{XP:(Str->Option Qg)->Ql->Prop}{YP:Qh->Ql->Prop}{d:DefRec}{K:Params->OZ}{T:Qj}(hn:l.most=some 63)(hdf:d.params.defaults=[])
  (hY:∀(w:Qh)(h:Ql),YP w h->(K w.params).In h/\h.get? T=some (Pu #[]))
  (F:∀ (w:Qh) (mg:Str->Option Qg) (fa:Qj) (h:Ql),(K w.params).In h->h.Ns Qo mg->mg d.name=some (.ref fa) ->
   (∃c,Pz (K w.params) c T=true)/\(K w.params).lookup T=none/\∃fd:QR,(∀(s:Qs)(u:Qg),QS s fd ⟨[u],[]⟩ [("_law_script",u)])/\∀base:Ql,(K w.params).In base->base.Ns Qo mg->yq mg base->mU l.prog w (K w.params) mg base (nF l.prog w) 16 fa fd ["_law_script"] (@Bd (uS T ⟨6,34,6,56⟩ ((("sorted_by":Str)++".<locals>.")++"<lambda>")) (K w.params) 1 (bi rd 1 8)))
  (math:∀ns:List Int,ns.length<=63->bi rd 1 8 [.lst (ns.map .int)]=.ok (.bl true)):PySem.W.WalkO q loose XP YP l.row.toRowW d [] (λf vs=>PySem.call f vs):=
 BK (n:=63) (k:=16) (x:="_law_script") (T:=T) (CX:=λw=>nF l.prog w) (sp:=λw=>@Bd (uS T ⟨6,34,6,56⟩ ((("sorted_by":Str)++".<locals>.")++"<lambda>")) (K w.params) 1 (bi rd 1 8)) hn (by decide) hdf ⟨rfl,by decide,by decide⟩ hY F
  (λw H a ns hl hT hS=>⟨[],[.lst (ns.map .int)],rfl,⟨hT,λa h=>nomatch h⟩,by rw[DT];exact bE.mpr ⟨.ref a,[],rfl,cE.mpr ⟨a,_,rfl,hS,tP ns⟩,cU.mpr rfl⟩,by rw[math ns hl];exact λv H' sm d=>⟨kT.mp d,sm⟩⟩) λ_ _ _ _ _ z=>by obtain⟨_,_,_,_,_,_,_,_,_,_,_,_,_,z⟩:=z;exact z
end Tk51
namespace Tk51
open PySem PySem.Spec L2 TG TD T4
local macro_rules|`(‹$x›)=>do if x.raw.isOfKind `num then Lean.Macro.throwUnsupported else `(some (S.val $x))
local macro_rules
 |`(tactic| simp! only[$xs,*])=>`(tactic| simp only[d9,tH,se,ub,kH,fP,ge_0,zW,pf,AU,ox,mK,oD,oX,Ag,AI,Au,zV,AB,pc,oA,ur,jQ,mr,pH,mw,uw,oN,o5,mi,oB,jJ,pj,jR,jC,iG,iH,pp,lY,iJ,mI,jI,lU,my,iD,mR,jw,ny,mC,jH,ja,lX,mq,A3,uq,zK,Ab,Am,oY,lV,oW,mj,mH,Aq,A2,Ou,Ov,M0,MZ,Ni,Nx,K0,env0,List.replicate,Ow,MJ,NW,Nat.reduceAdd,Nat.reduceSub,M6,M7,oH,oz,tG,oZ,pJ,oG,iK,oM,t7,tZ,uy,pG,jA,jv,jE,jO,jB,jS,rM,tY,sP,sX,tO,sM,jy,jT,gG,gD,pF,iF,gP,gf,gr,jZ,lw,gx,gB,jF,jx,lP,lW,jP,mN,o3,oV,mP,md,gN,if_true,if_false,Ox,Oy,Ng,$xs,*])
theorem gm(j:Int)(h:0<j:=by decide):∀i:Int,cq (.int i) (.int j)=some (.int (i%j)):=λi=>eS (i:=i) h
theorem gd(j:Int)(h:0<j:=by decide)(h':j<10^200:=by decide):∀i:Int,cW (.int i) (.int j)=some (.int (i/j)):=λi=>kX (i:=i) h h'
inductive Kd where
 |num (lo hi:Int)|wrd (ws:List Str)
def Kd.d:Kd->D
 |.num lo hi=>.tup [.str "number",.int lo,.int hi]
 |.wrd ws=>.tup [.str "word",.tup (ws.map .str)]
def Kd.gd:Kd->Prop
 |.num lo hi=>lo<=hi
 |.wrd ws=>ws≠[]/\ws.length<=100
def Kd.b:Kd->Bool
 |.num _ _=>true
 |.wrd _=>false
abbrev KL:=List (Str×Kd)
def kf(p:Str×Kd):D:=.tup [.str p.1,p.2.d]
abbrev fr(k:KL)(r:List (Str×D)):D:=.tup [.tup (k.map kf),.tup (r.map fld)]
def toD(p:Str×Kd):Str×D:=(p.1,p.2.d)
theorem yi(k:KL):k.map kf=(k.map toD).map fld:=by rw[Oc];rfl
theorem rh:(("number":Str)==("number":Str))=true:=by decide +kernel
theorem uD:(("word":Str)==("word":Str))=true:=by decide +kernel
theorem uX:(("word":Str)==("number":Str))=false:=by decide +kernel
theorem FZ:(("rows":Str)==("number":Str))=false:=by decide +kernel
theorem Ep:(("rows":Str)==("word":Str))=false:=by decide +kernel
def KG:Nat->D->Prop
 |0,d=>∃c:Kd,c.gd/\d=c.d
 |n+1,d=>(∃c:Kd,c.gd/\d=c.d)\/∃(ks:KL)(qs:List (Str×D))(b:Bool),d=.tup [.str "rows",fr ks qs,.bl b]/\1<=ks.length/\ks.length<=8/\(∀p∈ks,p.2.gd)/\qs.length<=8/\∀q∈qs,KG n q.2
theorem Ef(ws:List Str)(w:Str):pC ws w≠[]:=by
 unfold pC;split
 ·rename_i h;intro z;rw[z]at h;simp at h
 ·simp
theorem E9(ws:List Str)(h:ws.Nodup)(hl:ws.length<64):∃us:List Str,eW [.lst (ws.map .str)]=some (.lst (us.map .str))/\us.Perm ws:=by
 have pz:∀zs:List D,zs.Perm (ws.map D.str)->∃us:List Str,zs=us.map .str/\us.Perm ws:=λzs p=>by
  have e:zs=(zs.map λz=>match z with|.str w=>w|_=>"").map .str:=by
   rw[Oc]
   conv=>lhs;rw[<-List.map_id zs]
   refine Ny λz hz=>?_;obtain⟨w,_,rfl⟩:=List.mem_map.mp (p.mem_iff.mp hz);rfl
  refine⟨_,e,?_⟩;have q:=p.map λz:D=>match z with|.str w=>w|_=>("":Str)
  rw[Oc]at q;have e2:ws.map ((λz:D=>match z with|.str w=>w|_=>("":Str))∘D.str)=ws:=by
   conv=>rhs;rw[<-List.map_id ws]
   exact Ny λ_ _=>rfl
  rw[e2]at q;exact q
 have fin:∀key:D->List D,∃us:List Str,some (D.lst (iV key (ws.map .str)))=some (.lst (us.map .str))/\us.Perm ws:=λkey=>by
  obtain⟨us,e,q⟩:=pz _ (fg key (ws.map .str));exact⟨us,by rw[e],q⟩
 show∃us,pS (ws.map .str)=_/\_;unfold pS;by_cases a:Gx (ws.map .str)
 ·rw[if_pos a];exact fin _
 ·have b:Iu (ws.map .str):=by
   refine⟨by rw[MS];exact hl,false,λx hx=>?_,?_⟩
   ·obtain⟨w,_,rfl⟩:=List.mem_map.mp hx;exact .str w .nil
   ·rw[N9];refine h.imp λhne e=>hne ?_;have e:[D.str _]=[D.str _]:=e;injection e with e _;injection e
  rw[if_neg a,if_pos b];exact fin _
theorem rz(x:Int)(h0:0<=x)(h1:x<2147483700):∃c:Kd,bi cR 1 8 [.int x]=.ok c.d/\c.gd:=by
 have g3:=gm 3;have g4:=gm 4;have g26:=gm 26;have d3:=gd 3;have d12:=gd 12;have d78:=gd 78;have d2028:=gd 2028;have p7:jU (.int x) (.int 7)=some (.int (x^7)):=uT x 7 (by decide) ‹0›;have pb:=EQ;have gp:=λi=>eS (i:=i) (show(0:Int)<zX by omega);rw[pI];unfold cR;by_cases h:x%3<2
 ·have h':decide (x%3<2)=true:=decide_eq_true h;obtain⟨v,hv,e1⟩:=L4 (.int 0) (.int (-3)) (.int (0-x^7%zX)) (.int (x^7%zX)) (x/3%4) ‹0› ‹0›;obtain⟨lo,rfl⟩:∃lo:Int,v=.int lo:=by
   simp only[NP,OC,or_false]at hv;rcases hv with rfl|rfl|rfl|rfl<;>exact⟨_,rfl⟩
  obtain⟨w,w0,e2⟩:∃w:Int,0<=w/\aE (.lst [.int 0,.int 1,.int 6,.int zX]) (.int (x/12%4))=some (.int w):=by
   rcases(show x/12%4=0\/x/12%4=1\/x/12%4=2\/x/12%4=3 by omega)with z|z|z|z<;>rw[z]
   ·exact⟨0,by decide,rfl⟩
   ·exact⟨1,by decide,rfl⟩
   ·exact⟨6,by decide,rfl⟩
   ·exact⟨zX,by omega,rfl⟩
  refine⟨.num lo (lo+w),?_,by show lo<=lo+w;omega⟩;unfold Kd.d;simp! only[g3,h',p7,xR,gp,HK,d3,g4,e1,d12,e2,Hl]
 ·have h':decide (x%3<2)=false:=decide_eq_false h;have LL:(("abcdefghijklmnopqrstuvwxyz":Str)).length=26:=by decide +kernel
  have L0:(("":Str)).length<=1000:=by decide +kernel
  generalize hL:("abcdefghijklmnopqrstuvwxyz":Str)=L at LL;obtain⟨one,ho,e1⟩:=qo L ‹0› (x/3%26) ‹0› ‹0›;obtain⟨oth,hq,e2⟩:=qo L ‹0› (x/78%26) ‹0› ‹0›;have a1:=hU one oth ‹0› ‹0›;have a2:=hU oth one ‹0› ‹0›;have a3:=hU one one ‹0› ‹0›;have m1:=C8 (x:=one) (n:=8) (by decide) (by decide) ‹0›;have m2:=C8 (x:=oth) (n:=3) (by decide) (by decide) ‹0›;have r8:ky [.int 8]=some (eR 0 8):=iI 8 (by decide);generalize hW:[D.str "",.str one,.str oth,.str (one++oth),.str (oth++one),.str (jD one 8),.str (one++one),.str (jD oth 3)]=W;have W8:W.length=8:=by rw[<-hW];rfl
  have Ws:∀d∈W,∃w:Str,d=.str w:=by
   rw[<-hW];intro d hd;simp only[NP,OC,or_false]at hd;rcases hd with rfl|rfl|rfl|rfl|rfl|rfl|rfl|rfl<;>exact⟨_,rfl⟩
  obtain⟨T,hT⟩:∃T:cx,T=(aH (kC (fW (af (fC (.int 8)) (av))) (gN 7) (aH (jt (fB (f2 kJ (f2 sd (f2 yt (f2 cW (ah 0) (fC (.int 2028))) (ah 7)) (fC (.int 1))) (fC (.int 1)))) (mY 6 (f2 aE (ah 5) (ah 7)) (fC (.bl true))) (cz)) (dX [7] cz))) (aH (jt (lI [6] (fB (f2 kJ (fL ui (af (ah 6) (av))) (fC (.int 0))))) (mY 6 (ah 3) (fC (.bl true))) (cz)) (fZ 6 (bR (bT (af (fC (.str "word")) (af (fL cA (af (fL eW (af (fL kU (af (ah 6) (av))) (av))) (av))) (av)))))))):=⟨_,rfl⟩
  have fin:∀ws:List Str,ws.Nodup->ws.length<=10->ws≠[]->∃c:Kd,fZ 6 (bR (bT (af (fC (.str "word")) (af (fL cA (af (fL eW (af (fL kU (af (ah 6) (av))) (av))) (av))) (av))))) K0 [‹.int x›,none,none,‹.str one›,none,‹.lst W›,some (.own (wd ws)),none]=.ok c.d/\c.gd:=λws nd hl wn=>by
   obtain⟨us,ez,pz⟩:=E9 ws nd ‹0›;refine⟨.wrd us,?_,⟨λz=>wn (by rw[z]at pz;exact pz.symm.eq_nil),by rw[pz.length_eq];omega⟩⟩;unfold Kd.d;simp! only[wX,ez,qu]
  have key:∃c:Kd,T K0 [‹.int x›,none,none,‹.str one›,none,‹.lst W›,some (.own (.dct [] [])),none]=.ok c.d/\c.gd:=by
   rw[hT,iD,ja];simp! only[r8];refine eP (Q:=λz=>∃c:Kd,z=.ok c.d/\c.gd) (λi ρ=>∃ws:List Str,ws.Nodup/\ws.length<=i/\ρ=[‹.int x›,none,none,‹.str one›,none,‹.lst W›,some (.own (wd ws)),none]) ?_ ⟨[],Nb,MC _,rfl⟩ ?_
   ·rintro i d ρ kk hd ⟨ws,nd,hl,rfl⟩;have hi:=cT hd;rw[cu]at hi;have hdi:d=.int (i:Int):=by
     rw[iL,MP,NE hi]at hd;cases hd;simp
    subst hdi;obtain⟨w,ew⟩:=Ws (W[i]'‹0›) (N8 _);have ix:aE (.lst W) (.int (i:Int))=some (.str w):=by
     rw[Hc,rQ ‹0›,ew]
    have sh:=BL (x/2028) i;cases hb:(Builtin.bitAnd (x/2028/2^i) 1==1)with
    |false=>
     refine⟨_,_,rfl,⟨ws,nd,by omega,rfl⟩,?_⟩;simp! only[d2028,sh,uN,hb]
    |true=>
     refine⟨_,_,rfl,⟨pC ws w,vp w nd,by have:=rC ws w;omega,rfl⟩,?_⟩;have pk:=λk:Ks=>uE (i:=6) (fk:=f2 aE (ah 5) (ah 7)) (fv:=fC (.bl true)) (k:=k) (ρ:=[‹.int x›,none,none,‹.str one›,none,‹.lst W›,some (.own (wd ws)),‹.int (i:Int)›]) (al:=zm ws) (q:=.inr w) (d:=.str w) (v:=.bl true) rfl (by simp! only[ix]) rfl rfl (by simp;omega);simp! only[d2028,sh,uN,hb,pk,yE]
   ·rintro ρ' ⟨ws,nd,hl,rfl⟩;rw[cu]at hl;have pt:lI [6] (fB (f2 kJ (fL ui (af (ah 6) (av))) (fC (.int 0)))) [‹.int x›,none,none,‹.str one›,none,‹.lst W›,some (.own (wd ws)),none]=.ok (((ws.length:Int))==0):=by
     simp! only[ro,FV,D3]
    dsimp only;rw[iD,ny,pt,se];cases hb:((ws.length:Int)==0)with
    |false=>exact fin ws nd ‹0› λz=>by rw[z]at hb;cases hb
    |true=>
     have pk:=λk:Ks=>uE (i:=6) (fk:=ah 3) (fv:=fC (.bl true)) (k:=k) (ρ:=[‹.int x›,none,none,‹.str one›,none,‹.lst W›,some (.own (wd ws)),none]) (al:=zm ws) (q:=.inr one) (d:=.str one) (v:=.bl true) rfl rfl rfl rfl (by simp;omega);rw[if_pos rfl,pk,yE];exact fin (pC ws one) (vp one nd) (by have:=rC ws one;omega) (Ef ws one)
  obtain⟨d,ed,fd⟩:=key;have mW:kI W=some (.lst W):=Cd ‹0›;refine⟨d,?_,fd⟩;rw[<-hT];simp only[K0]at ed;simp! only[hL,g3,h',d3,g26,e1,d78,e2,a1,a2,a3,m1,m2,hW,mW,vz,ed]
theorem yZ{b st:Int}{L:List Str}{nm:Str}(h:∀(j:Nat)(w:Str),L[j]?=some w->yH b (st+(j:Int)) w)(hn:yH b (st+(L.length:Int)) nm):∀(j:Nat)(w:Str),(L++[nm])[j]?=some w->yH b (st+(j:Int)) w:=λj w e=>by
 rw[List.getElem?_append]at e;split at e
 ·exact h j w e
 ·rename_i hj
  have:j-L.length=0:=by
   have:=cT e
   simp at this;omega
  rw[this]at e;cases e;rw[show j=L.length by omega];exact hn
theorem yX(dp g:Nat)(hk:∀x b:Int,0<=x->x<2147483700->0<=b->∃d,bg g [.int x,.int b,.int dp]=.ok d/\KG dp d)(x b st:Int)(m r:Nat)(h0:0<=x)(h1:x<2147483700)(hb:0<=b)(hs:0<=st)(hm:m<=8)(hr:r<=8):
  ∃(ks:KL)(qs:List (Str×D)),aN (g+1) [.int x,.int b,.int st,.int m,.int r,.int dp]=.ok (fr ks qs)/\ks.length=m/\qs.length=r/\(∀p∈ks,p.2.gd)/\(∀q∈qs,KG dp q.2)/\∀(j:Nat)(w:Str),(ks.map (·.1)++qs.map (·.1))[j]?=some w->yH b (st+(j:Int)) w:=by
 rw[gH,Gy];unfold i3;have rn:ky [.int ((m:Int)+(r:Int))]=some (eR 0 (m+r)):=by
  rw[show((m:Int)+(r:Int))=((m+r:Nat):Int)by omega];exact iI (m+r) ‹0›
 obtain⟨T,hT⟩:∃T:cx,T=fZ 7 (fZ 6 (bR (bT (af (fL cA (af (ah 6) (av))) (af (fL cA (af (ah 7) (av))) (av)))))):=⟨_,rfl⟩
 rw[<-hT];simp! only[EF,rn];refine eP (Q:=λz=>∃(ks:KL)(qs:List (Str×D)),z=.ok (fr ks qs)/\ks.length=m/\qs.length=r/\(∀p∈ks,p.2.gd)/\(∀q∈qs,KG dp q.2)/\∀(j:Nat)(w:Str),(ks.map (·.1)++qs.map (·.1))[j]?=some w->yH b (st+(j:Int)) w)
  (fun i ρ=>∃ (y:Int) (ks:KL) (qs:List (Str×D)),0<=y/\y < 2147483700/\ks.length=min i m/\qs.length=i - m/\(∀ p∈ks,p.2.gd)/\(∀ q∈qs,KG dp q.2)/\(∀ (j:Nat) (w:Str),(ks.map (·.1)++qs.map (·.1))[j]?=some w->yH b (st+(j:Int)) w) /\
   ρ=[‹.int y›,‹.int b›,‹.int st›,‹.int m›,‹.int r›,‹.int dp›,some (.own (.lst (ks.map kf))),some (.own (.lst (qs.map fld))),none]) ?_ ⟨x,[],[],h0,h1,by simp,by simp,(λ_ h=>nomatch h),(λ_ h=>nomatch h),(λj w h=>by simp at h),rfl⟩ ?_
 ·rintro i d ρ kk hd ⟨y,ps,qs,y0,y1,lp,lq,fp,fq,fn,rfl⟩;have hi:=cT hd;rw[cu]at hi;have hdi:d=.int (i:Int):=by
   rw[iL,MP,NE hi]at hd;cases hd;simp
  subst hdi;obtain⟨y',y0',y1',ey⟩:=eN y y0 y1;obtain⟨nm,en,nP⟩:=yY b (st+(i:Int)) hb ‹0›;by_cases h:i<m
  ·have h':decide ((i:Int)<(m:Int))=true:=decide_eq_true ‹0›;obtain⟨c,ek,ck⟩:=rz y' y0' ‹0›;refine⟨_,_,rfl,⟨y',ps++[(nm,c)],qs,y0',by omega,by rw[MR,MY];omega,by omega,λp hp=>?_,fq,?_,rfl⟩,?_⟩
   ·rcases List.mem_append.mp hp with z|z
    ·exact fp p z
    ·rw[Oi]at z;subst z;exact ck
   ·have q0:qs=[]:=List.length_eq_zero_iff.mp ‹0›;subst q0;rw[MZ,MJ]at fn ⊢;rw[Nz];exact yZ fn (by rw[MS,lp,Ol ‹0›];exact nP)
   ·have ap:eQ (ps.map kf) [.tup [.str nm,c.d]]=some ((ps++[(nm,c)]).map kf):=by
     rw[jk (by rw[MS];omega),Nz];rfl
    have sm:=λK:Ks=>jm 6 eQ (af (bT (af (fR (bi bU 2 7) (af (ah 1) (af (f2 bK (ah 2) (ah 8)) (av)))) (af (fR (bi cR 1 8) (af (ah 0) (av))) (av)))) (av)) K [‹.int y'›,‹.int b›,‹.int st›,‹.int m›,‹.int r›,‹.int dp›,some (.own (.lst (ps.map kf))),some (.own (.lst (qs.map fld))),‹.int i›] (xs:=ps.map kf) rfl;generalize (ps++[(nm,c)]).map kf=Y at ap ⊢;simp! only[ey,h',sm,en,ek,qu,ap]
  ·have h':decide ((i:Int)<(m:Int))=false:=decide_eq_false ‹0›;obtain⟨k,ek,fk⟩:=hk y' b y0' ‹0› hb;refine⟨_,_,rfl,⟨y',ps,qs++[(nm,k)],y0',by omega,by omega,by rw[MR,MY];omega,fp,λp hp=>?_,?_,rfl⟩,?_⟩
   ·rcases List.mem_append.mp hp with z|z
    ·exact fq p z
    ·rw[Oi]at z;subst z;exact fk
   ·rw[Nz,<-NK];exact yZ fn (by rw[MR,MS,MS,lp,lq,show min i m+(i-m)=i by omega];exact nP)
   ·have ap:eQ (qs.map fld) [.tup [.str nm,k]]=some ((qs++[(nm,k)]).map fld):=by
     rw[jk (by rw[MS];omega),Nz];rfl
    have sm:=λK:Ks=>jm 7 eQ (af (bT (af (fR (bi bU 2 7) (af (ah 1) (af (f2 bK (ah 2) (ah 8)) (av)))) (af (fR (bg g) (af (ah 0) (af (ah 1) (af (ah 5) (av))))) (av)))) (av)) K [‹.int y'›,‹.int b›,‹.int st›,‹.int m›,‹.int r›,‹.int dp›,some (.own (.lst (ps.map kf))),some (.own (.lst (qs.map fld))),‹.int i›] (xs:=qs.map fld) rfl;generalize (qs++[(nm,k)]).map fld=Y at ap ⊢;simp! only[ey,h',sm,en,ek,qu,ap]
 ·rintro ρ' ⟨y,ps,qs,y0,y1,lp,lq,fp,fq,fn,rfl⟩;rw[cu]at lp lq;refine⟨ps,qs,?_,by omega,by omega,fp,fq,fn⟩;rw[hT];simp! only[qu]
theorem Dq:∀(dp g:Nat),2*dp+1<=g->∀x b:Int,0<=x->x<2147483700->0<=b->∃d,bg g [.int x,.int b,.int dp]=.ok d/\KG dp d:=by
 intro dp
 induction dp with
 |zero=>
  intro g hg x b h0 h1 hb;obtain⟨g,rfl⟩:∃g',g=g'+1:=⟨g-1,by omega⟩
  have d3:=gd 3;obtain⟨c,e,f⟩:=rz (x/3) ‹0› ‹0›;refine⟨c.d,?_,c,f,rfl⟩;rw[eM,oK];unfold gY;have z:(((0:Nat):Int)==0)=true:=rfl;simp! only[z,d3,e]
 |succ dp ih=>
  intro g hg x b h0 h1 hb;obtain⟨g,rfl⟩:∃g',g=g'+1+1:=⟨g-2,by omega⟩
  have g2:=gm 2;have g3:=gm 3;have g12:=gm 12;have d3:=gd 3;have d6:=gd 6;have d18:=gd 18;have d36:=gd 36;have z:(((dp+1:Nat):Int)==0)=false:=by simp;omega
  rw[eM,oK];unfold gY;by_cases h:x%3<2
  ·have h':decide (x%3<2)=true:=decide_eq_true h;obtain⟨c,e,f⟩:=rz (x/3) ‹0› ‹0›;refine⟨c.d,?_,.inl ⟨c,f,rfl⟩⟩;simp! only[z,g3,h',d3,e]
  ·have h':decide (x%3<2)=false:=decide_eq_false h;obtain⟨m,hm,hm8,m1⟩:∃m:Nat,1+x/3%2=(m:Int)/\m<=8/\1<=m:=⟨(1+x/3%2).toNat,by omega,by omega,by omega⟩
   obtain⟨r,hr,hr8⟩:∃m:Nat,x/6%3=(m:Int)/\m<=8:=⟨(x/6%3).toNat,by omega,by omega⟩
   have hd:((dp+1:Nat):Int)-1=(dp:Int):=(by omega);obtain⟨ps,qs,e,l1,l2,F1,F2,_⟩:=yX dp g (ih g ‹0›) (x/3) b (x/36%12) m r ‹0› ‹0› hb ‹0› hm8 hr8;refine⟨.tup [.str "rows",fr ps qs,.bl (x/18%2==1)],?_,.inr ⟨ps,qs,_,rfl,by omega,by omega,F1,by omega,F2⟩⟩;simp! only[z,g3,h',d3,d36,g12,g2,d6,hm,hr,hd,e,d18,Hl]
theorem Dp(dp:Nat)(hd:dp<=3)(x b st:Int)(m r:Nat)(h0:0<=x)(h1:x<2147483700)(hb:0<=b)(hs:0<=st)(hm:m<=8)(hr:r<=8):
  ∃(ks:KL)(qs:List (Str×D)),aN 12 [.int x,.int b,.int st,.int m,.int r,.int dp]=.ok (fr ks qs)/\ks.length=m/\qs.length=r/\(∀p∈ks,p.2.gd)/\(∀q∈qs,KG dp q.2)/\∀(j:Nat)(w:Str),(ks.map (·.1)++qs.map (·.1))[j]?=some w->yH b (st+(j:Int)) w:=
 yX dp 11 (Dq dp 11 ‹0›) x b st m r h0 h1 hb hs hm hr
def Kd.has:Kd->D->Prop
 |.num lo hi,d=>∃i,d=.int i/\lo<=i/\i<=hi
 |.wrd ws,d=>∃w,d=.str w/\w∈ws
def zq:KL->List D->Prop
 |[],[]=>True
 |p::k,v::vs=>p.2.has v/\zq k vs
 |_,_=>False
theorem yy{c:Kd}{v:D}(h:c.has v){σ:List Bool}{vs:List D}(s:Sh σ vs):Sh (c.b::σ) (v::vs):=by
 cases c with
 |num lo hi=>obtain⟨i,rfl,_⟩:=h;exact .int i s
 |wrd ws=>obtain⟨w,rfl,_⟩:=h;exact .str w s
theorem zq.sh:∀{k:KL}{vs:List D},zq k vs->Sh (k.map (·.2.b)) vs
 |[],[],_=>.nil
 |_::_,_::_,h=>yy h.1 h.2.sh
theorem zq.app:∀{k:KL}{vs:List D}{k':KL}{vs':List D},zq k vs->zq k' vs'->zq (k++k') (vs++vs')
 |[],[],_,_,_,h=>h
 |_::_,_::_,_,_,a,h=>⟨a.1,a.2.app h⟩
theorem zq.length{k:KL}{vs:List D}(h:zq k vs):vs.length=k.length:=by
 rw[h.sh.length,MS]
theorem oQ{σ:List Bool}{kl:Nat}(h0:σ≠[])(hl:kl=σ.length)(rows:List (List D))(hs:∀r∈rows,Sh σ (r.take kl))(hn:rows.length<64):∃t:List (List D),bi aJ 2 4 [.int kl,.lst (rows.map .tup)]=.ok (.tup (t.map .tup))/\vC kl t/\(∀r∈t,r∈rows)/\t.length<=rows.length/\∀r∈rows,∃r'∈t,r'.take kl=r.take kl:=by
 obtain⟨T,hT⟩:∃T:cx,T=(fZ 2 (bR (fL cA (af (iW [none,some 2] (bL (fL eW (af (fL o6 (af (ah 2) (av))) (av)))) (gN 0) (dZ) (f2 q5 (ah 1) (ah 0))) (av))))):=⟨_,rfl⟩
 rw[gq];unfold aJ;rw[<-hT];simp! only[vz];refine eP (Q:=λz=>∃t:List (List D),z=.ok (.tup (t.map .tup))/\vC kl t/\(∀r∈t,r∈rows)/\t.length<=rows.length/\∀r∈rows,∃r'∈t,r'.take kl=r.take kl) (λi ρ=>∃al:List (List Key×D),(al.map (·.1)).Nodup/\al.length<=i/\(∀r∈rows.take i,∃q∈al.map (·.1),q.map bF=r.take kl)/\(∀p∈al,∃r∈rows,p.2=.tup r/\r.take kl=p.1.map bF)/\ρ=[‹.int kl›,‹.lst (rows.map .tup)›,some (.own (eL al)),none]) ?_ ⟨[],Nb,MC _,(λr h=>by rw[Nj]at h;cases h),(λ_ h=>nomatch h),rfl⟩ ?_
 ·rintro i d ρ kk hd ⟨al,nd,ll,cv,hp,rfl⟩;have hi:=cT hd;rw[MS]at hi;rw[MP,Nq hi]at hd;cases hd;have rm:rows[i]∈rows:=N8 hi;obtain⟨q,eq⟩:=qz (hs _ rm);have ct:cutD rows[i] none (some (kl:Int))=q.map bF:=by rw[fG,eq]
  refine⟨_,_,rfl,⟨il al q (.tup rows[i]),Do _ _ nd,by have:=Cv al q (.tup rows[i]);omega,λr hr=>?_,λp h=>?_,rfl⟩,?_⟩
  ·rw[o0];rw[OD hi]at hr;rcases List.mem_append.mp hr with z|z
   ·obtain⟨q',h1,h2⟩:=cv r z;refine⟨q',?_,h2⟩;split
    ·exact h1
    ·exact Mx _ h1
   ·rw[List.mem_singleton.mp z];refine⟨q,?_,eq.symm⟩;split
    ·rename_i h;exact h
    ·exact MD _ Mv
  ·rcases Bj h with z|z
   ·exact hp p z
   ·subst z;exact⟨_,rm,rfl,eq⟩
  ·have pd:=λK:Ks=>Ey (i:=2) (fk:=bw (ah 3) (aY) (bV (ah 0))) (fv:=ah 3) (k:=K) (ρ:=[‹.int kl›,‹.lst (rows.map .tup)›,some (.own (eL al)),‹.tup rows[i]›]) (al:=al) (q:=q) (v:=.tup rows[i]) rfl (by simp! only[ct]) rfl ‹0›;generalize eL (il al q (.tup rows[i]))=Y at pd ⊢;generalize eL al=Z at pd ⊢;simp! only[pd]
 ·rintro ρ' ⟨al,nd,ll,cv,hp,rfl⟩;rw[MS]at ll;have hsk:∀p∈al,Sh σ (p.1.map bF):=λp h=>by
   obtain⟨r,hr,_,e⟩:=hp p h;rw[<-e];exact hs r hr
  obtain⟨es,ri⟩:=D5 nd hsk h0 ‹0›;have pm:=fg d7 (encK al);have lt:=Bk al;generalize iV d7 (encK al)=W at es ri pm;have wl:W.length=al.length:=by rw[pm.length_eq,MS]
  have mem:∀x∈W,∃p∈al,x=.tup (p.1.map bF):=λx hx=>by
   obtain⟨p,h1,h2⟩:=List.mem_map.mp (pm.mem_iff.mp hx);exact⟨p,h1,h2.symm⟩
  obtain⟨vs,v1,v2,v3⟩:=CP (ρ:=[none,‹eL al›]) (g:=gN 0) (C:=dZ) (Fe:=f2 q5 (ah 1) (ah 0)) W (λi v=>∃r∈rows,v=.tup r/\W[i]?=some (.tup (r.take kl))) λi d hd=>by
   obtain⟨p,h1,h2⟩:=mem d (MQ hd);obtain⟨r,hr,e1,e2⟩:=hp p h1;have dx:=C5 al p.1;rw[qP nd h1,e1]at dx;refine⟨[‹d›,‹eL al›],.tup r,rfl,rfl,?_,r,hr,rfl,by rw[hd,h2,e2]⟩;subst h2;generalize eL al=Z at dx;simp! only[dx]
  obtain⟨t,rfl⟩:=zf vs λv hv=>by
   obtain⟨i,hi,ei⟩:=Nw hv;obtain⟨r,_,e,_⟩:=v2 i v (by rw[Nq hi,ei]);exact⟨r,e⟩
  rw[MS]at v1;have at_:∀(i:Nat)(h:i<t.length),t[i]∈rows/\W[i]?=some (.tup (t[i].take kl)):=λi h=>by
   obtain⟨r,hr,e,w⟩:=v2 i (.tup t[i]) (by rw[MP,Nq h];rfl);injection e with e;rw[e];exact⟨hr,w⟩
  refine⟨t,?_,?_,λr hr=>?_,by omega,λr hr=>?_⟩
  ·have lc:iW [none,some 2] (bL (fL eW (af (fL o6 (af (ah 2) (av))) (av)))) (gN 0) (dZ) (f2 q5 (ah 1) (ah 0)) [‹.int kl›,‹.lst (rows.map .tup)›,‹eL al›,none]=.ok (.lst (t.map .tup)):=by
    refine eY (ds:=W) ?_ ‹0› v3;generalize eL al=Z at lt;simp! only[lt,es]
   rw[hT];generalize eL al=Z at lc;simp! only[lc]
  ·refine List.pairwise_iff_getElem.mpr λi j hi hj hij=>?_;have a:=(at_ i hi).2;have b:=(at_ j hj).2;rw[Nq ‹0›]at a b
   have:=List.pairwise_iff_getElem.mp ri i j ‹0› ‹0› hij
   rw[Option.some.inj a,Option.some.inj b]at this;exact this
  ·obtain⟨i,hi,ei⟩:=Nw hr;rw[<-ei];exact(at_ i hi).1
  ·rw[MS,NC]at cv;obtain⟨q,hq,eq⟩:=cv r hr;obtain⟨p,hp',rfl⟩:=List.mem_map.mp hq
   have:D.tup (p.1.map bF)∈W:=pm.mem_iff.mpr (List.mem_map.mpr ⟨p,hp',rfl⟩)
   obtain⟨i,hi,ei⟩:=Nw this;have a:=(at_ i ‹0›).2;rw[Nq hi,ei]at a;injection a with a;injection a with a;exact⟨t[i]'‹0›,N8 _,by rw[<-a,eq]⟩
theorem rX(c:Kd)(hg:c.gd)(g:Nat)(x:Int)(h0:0<=x)(h1:x<2147483700):∃v,aD (g+1) [c.d,.int x]=.ok v/\c.has v:=by
 rw[eA,gq];unfold fK;cases c with
 |num lo hi=>
  have hg:lo<=hi:=hg;have p7:jU (.int x) (.int 7)=some (.int (x^7)):=uT x 7 (by decide) ‹0›;have gm:=λi=>eS (i:=i) (show(0:Int)<hi-lo+1 by omega);have z1:=Oz (x^7) (show hi-lo+1≠0 by omega);have z2:=OA (x^7) (show 0<hi-lo+1 by omega);refine⟨.int (lo+x^7%(hi-lo+1)),?_,_,rfl,by omega,by omega⟩;simp! only[Kd.d,rh,p7,gm]
 |wrd ws=>
  obtain⟨wn,_⟩:=(show ws≠[]/\ws.length<=100 from hg)
  have ul:0<ws.length:=List.length_pos_iff.mpr wn;have q1:=Oz x (show(ws.length:Int)≠0 by omega);have q2:=OA x (show(0:Int)<(ws.length:Int)by omega);have gm:=λi=>eS (i:=i) (show(0:Int)<(ws.length:Int)by omega);have ix:aE (.tup (ws.map .str)) (.int (x%(ws.length:Int)))=some (.str (ws[(x%(ws.length:Int)).toNat]'‹0›)):=by
   rw[J6,uO,ot q1 q2];rfl
  refine⟨_,?_,ws[(x%(ws.length:Int)).toNat]'‹0›,rfl,N8 _⟩;simp! only[Kd.d,uX,uD,MS,gm,ix]
theorem BO(n g:Nat)(hv:∀(d:D)(x:Int),KG n d->0<=x->x<2147483700->∃v,aD (g+1) [d,.int x]=.ok v/\AL (2*n) v)(ks:KL)(qs:List (Str×D))(k8:ks.length<=8)(q8:qs.length<=8)(hk:∀p∈ks,p.2.gd)(hq:∀q∈qs,KG n q.2)(A B:List D)(em:A++B=(ks.map toD++qs).map fld)(mn hd tl:Int)(h0:0<=hd)(h1:hd<2147483700)(t0:0<=tl)(t1:tl<2147483700):
  ∃vs:List D,aL (g+2) [.tup [.tup A,.tup B],.int mn,.int hd,.int tl]=.ok (.tup vs)/\vs.length=ks.length+qs.length/\zq ks (vs.take ks.length)/\∀v∈vs,AL (2*n) v:=by
 rw[iq,vd];unfold jV;have fl:(ks.map toD++qs).length=ks.length+qs.length:=by rw[MR,MS]
 have ad:=fQ A B (by have:=congrArg List.length em;rw[MR,MS]at this;omega);rw[em]at ad;obtain⟨T,hT⟩:∃T:cx,T=(fZ 4 (bR (fL cA (af (ah 4) (av))))):=⟨_,rfl⟩
 rw[<-hT];simp! only[EF,ad];refine eP (Q:=λz=>∃vs:List D,z=.ok (.tup vs)/\vs.length=ks.length+qs.length/\zq ks (vs.take ks.length)/\∀v∈vs,AL (2*n) v)
  (λi ρ=>∃(y z:Int)(ka va:List D),0<=y/\y<2147483700/\0<=z/\z<2147483700/\zq (ks.take i) ka/\va.length=i-ks.length/\(∀v∈va,AL (2*n) v)/\ρ=[‹.tup [.tup A,.tup B]›,‹.int mn›,‹.int y›,‹.int z›,some (.own (.lst (ka++va))),none,none]) ?_ ⟨hd,tl,[],[],h0,h1,t0,t1,trivial,by simp,(λ_ h=>nomatch h),rfl⟩ ?_
 ·rintro i d ρ kk hd ⟨y,z,ka,va,y0,y1,z0,z1,hka,lva,hva,rfl⟩;have hi:=cT hd;rw[MS,fl]at hi;rw[MP,Nq ‹0›]at hd;cases hd;have kal:ka.length=min i ks.length:=by rw[hka.length,ML]
  obtain⟨y',y0',y1',ey⟩:=eN y y0 y1;obtain⟨z',z0',z1',ez⟩:=eN z z0 z1;have step:∀x:Int,0<=x->x<2147483700->∃v,aD (g+1) [((ks.map toD++qs)[i]'‹0›).2,.int x]=.ok v/\∃ka' va',ka++va++[v]=ka'++va'/\zq (ks.take (i+1)) ka'/\va'.length=i+1-ks.length/\∀v∈va',AL (2*n) v:=λx x0 x1=>by
   by_cases h:i<ks.length
   ·have e:(ks.map toD++qs)[i]'‹0›=toD ks[i]:=(by rw[List.getElem_append_left (by rw[MS];exact h),List.getElem_map]);obtain⟨v,ev,sv⟩:=rX ks[i].2 (hk _ (N8 h)) g x x0 x1;have v0:va=[]:=List.length_eq_zero_iff.mp ‹0›;subst v0;refine⟨v,by rw[e];exact ev,ka++[v],[],by simp,?_,by simp;omega,λ_ h=>nomatch h⟩;rw[OD h];exact hka.app ⟨sv,trivial⟩
   ·have e:(ks.map toD++qs)[i]'‹0›=qs[i-ks.length]'‹0›:=(by rw[List.getElem_append_right (by rw[MS];omega)];simp);obtain⟨v,ev,sv⟩:=hv _ x (hq _ (N8 (show i-ks.length<qs.length by omega))) x0 x1;refine⟨v,by rw[e];exact ev,ka,va++[v],by rw[NK],?_,by rw[MR,MY];omega,λw hw=>?_⟩
    ·rw[Oh ‹0›]at hka ⊢;exact hka
    ·rcases List.mem_append.mp hw with z|z
     ·exact hva w z
     ·rw[List.mem_singleton.mp z];exact sv
  have gt:gT 2 (nH [5,6]) (fld ((ks.map toD++qs)[i]'‹0›)) [‹.tup [.tup A,.tup B]›,‹.int mn›,‹.int y›,‹.int z›,some (.own (.lst (ka++va))),none,none]=some [‹.tup [.tup A,.tup B]›,‹.int mn›,‹.int y›,‹.int z›,some (.own (.lst (ka++va))),‹.str ((ks.map toD++qs)[i]'‹0›).1›,‹((ks.map toD++qs)[i]'‹0›).2›]:=rfl;have alen:(ka++va).length<1000:=by rw[MR];omega
  generalize (ks.map toD++qs)[i]'‹0›=p at step gt;cases hb:decide (((ka++va).length:Int)<mn)with
  |true=>
   obtain⟨v,ev,ka',va',e1,e2,e3,e4⟩:=step y' y0' ‹0›;refine⟨_,_,gt,⟨y',z,ka',va',y0',by omega,z0,z1,e2,e3,e4,rfl⟩,?_⟩;have ap:eQ (ka++va) [v]=some (ka'++va'):=(by rw[jk ‹0›,e1]);have sm:=λK:Ks=>jm 4 eQ (af (fR (aD (g+1)) (af (ah 6) (af (ah 2) (av)))) (av)) K [‹.tup [.tup A,.tup B]›,‹.int mn›,‹.int y'›,‹.int z›,some (.own (.lst (ka++va))),‹.str p.1›,‹p.2›] (xs:=ka++va) rfl;generalize ka++va=A at hb ap sm alen;generalize ka'++va'=B at ap;simp! only[ro,FV,hb,ey,sm,ev,ap]
  |false=>
   obtain⟨v,ev,ka',va',e1,e2,e3,e4⟩:=step z' z0' ‹0›;refine⟨_,_,gt,⟨y,z',ka',va',y0,y1,z0',by omega,e2,e3,e4,rfl⟩,?_⟩;have ap:eQ (ka++va) [v]=some (ka'++va'):=(by rw[jk ‹0›,e1]);have sm:=λK:Ks=>jm 4 eQ (af (fR (aD (g+1)) (af (ah 6) (af (ah 3) (av)))) (av)) K [‹.tup [.tup A,.tup B]›,‹.int mn›,‹.int y›,‹.int z'›,some (.own (.lst (ka++va))),‹.str p.1›,‹p.2›] (xs:=ka++va) rfl;generalize ka++va=A at hb ap sm alen;generalize ka'++va'=B at ap;simp! only[ro,FV,hb,ez,sm,ev,ap]
 ·rintro ρ' ⟨y,z,ka,va,y0,y1,z0,z1,hka,lva,hva,rfl⟩;rw[MS,fl]at hka lva;rw[Oh ‹0›]at hka;have kal:ka.length=ks.length:=hka.length;refine⟨ka++va,?_,by rw[MR];omega,by rw[<-kal,List.take_left];exact hka,λv hv=>?_⟩
  ·rw[hT];generalize ka++va=A;simp! only[]
  ·rcases List.mem_append.mp hv with w|w
   ·exact(sS hka.sh v w).of0 _
   ·exact hva v w
theorem Dl(n g:Nat)(hv:∀(d:D)(x:Int),KG n d->0<=x->x<2147483700->∃v,aD (g+1) [d,.int x]=.ok v/\AL (2*n) v)(ks:KL)(qs:List (Str×D))(k1:1<=ks.length)(k8:ks.length<=8)(q8:qs.length<=8)(hk:∀p∈ks,p.2.gd)(hq:∀q∈qs,KG n q.2)(x:Int)(m:Nat)(h0:0<=x)(h1:x<2147483700)(hm:m<=8):
  ∃t:List (List D),aQ (g+3) [fr ks qs,.int x,.int m]=.ok (.tup (t.map .tup))/\vC ks.length t/\t.length<=8/\∀r∈t,r.length=ks.length+qs.length/\zq ks (r.take ks.length)/\∀v∈r,AL (2*n) v:=by
 have rn:=iI m ‹0›;obtain⟨T,hT⟩:∃T:cx,T=(fZ 3 (bR (fR (bi aJ 2 4) (af (fL ig (af (f2 aE (ah 0) (fC (.int 0))) (av))) (af (ah 3) (av)))))):=⟨_,rfl⟩
 rw[gR,oK];unfold ji;rw[<-hT];simp! only[EF,rn];refine eP (Q:=λz=>∃t:List (List D),z=.ok (.tup (t.map .tup))/\vC ks.length t/\t.length<=8/\∀r∈t,r.length=ks.length+qs.length/\zq ks (r.take ks.length)/\∀v∈r,AL (2*n) v)
  (λi ρ=>∃(y:Int)(rs:List (List D)),0<=y/\y<2147483700/\rs.length=i/\(∀r∈rs,r.length=ks.length+qs.length/\zq ks (r.take ks.length)/\∀v∈r,AL (2*n) v)/\ρ=[‹fr ks qs›,‹.int y›,‹.int m›,some (.own (.lst (rs.map .tup))),none]) ?_ ⟨x,[],h0,h1,rfl,(λ_ h=>nomatch h),rfl⟩ ?_
 ·rintro i d ρ kk hd ⟨y,rs,y0,y1,rl,hr,rfl⟩;have hi:=cT hd;rw[cu]at hi;obtain⟨y',y0',y1',ey⟩:=eN y y0 y1;obtain⟨vs,ev,v1,v2,v3⟩:=BO n g hv ks qs k8 q8 hk hq (ks.map kf) (qs.map fld) (by rw[Nz,yi]) 0 0 y' (by decide) (by decide) y0' ‹0›;refine⟨_,_,rfl,⟨y',rs++[vs],y0',by omega,by rw[MR,MY,rl],λr h=>?_,rfl⟩,?_⟩
  ·rcases List.mem_append.mp h with z|z
   ·exact hr r z
   ·rw[List.mem_singleton.mp z];exact⟨v1,v2,v3⟩
  ·have ap:eQ (rs.map .tup) [.tup vs]=some ((rs++[vs]).map .tup):=by
    rw[jk (by rw[MS];omega),Nz];rfl
   have sm:=λK:Ks=>jm 3 eQ (af (fR (aL (g+2)) (af (ah 0) (af (fC (.int 0)) (af (fC (.int 0)) (af (ah 1) (av)))))) (av)) K [‹fr ks qs›,‹.int y'›,‹.int m›,some (.own (.lst (rs.map .tup))),‹d›] (xs:=rs.map .tup) rfl;generalize (rs++[vs]).map D.tup=Y at ap ⊢;generalize rs.map D.tup=Z at ap sm ⊢;simp! only[ey,sm,ev,ap]
 ·rintro ρ' ⟨y,rs,y0,y1,rl,hr,rfl⟩;rw[cu]at rl;obtain⟨t,et,ri,tm,tl,_⟩:=oQ (σ:=ks.map (·.2.b)) (kl:=ks.length) (λz=>by have:=congrArg List.length z;rw[MS,M7]at this;omega) (by rw[MS]) rs (λr h=>(hr r h).2.1.sh) ‹0›;refine⟨t,?_,ri,by omega,λr h=>hr r (tm r h)⟩;rw[hT];simp! only[MS,et]
theorem BD:∀(n g:Nat),3*n+1<=g->∀(d:D)(x:Int),KG n d->0<=x->x<2147483700->∃v,aD g [d,.int x]=.ok v/\AL (2*n) v:=by
 intro n
 induction n with
 |zero=>
  intro g hg d x hd h0 h1;obtain⟨g,rfl⟩:∃g',g=g'+1:=⟨g-1,by omega⟩
  obtain⟨c,cg,rfl⟩:=hd;obtain⟨v,ev,sv⟩:=rX c cg g x h0 h1;exact⟨v,ev,sS (yy sv .nil) v Mv⟩
 |succ n ih=>
  intro g hg d x hd h0 h1;obtain⟨g,rfl⟩:∃g',g=g'+3+1:=⟨g-4,by omega⟩
  rcases hd with⟨c,cg,rfl⟩|⟨ks,qs,b,rfl,k1,k8,hk,q8,hq⟩
  ·obtain⟨v,ev,sv⟩:=rX c cg (g+3) x h0 h1;exact⟨v,ev,(sS (yy sv .nil) v Mv).of0 _⟩
  ·have d3:=gd 3;have g3:=gm 3;obtain⟨m,hm,em⟩:∃m:Nat,m<=3/\pQ [.int (x%3),.int (if b then 1 else 0)]=some (.int (m:Int)):=by
    refine⟨(if(if b then(1:Int)else 0)>x%3 then(if b then(1:Int)else 0)else x%3).toNat,?_,?_⟩
    ·cases b<;>simp<;>split<;>omega
    ·rw[jZ];congr 2;cases b<;>simp<;>split<;>omega
   obtain⟨t,ev,_,tl,ht⟩:=Dl n g (ih (g+1) ‹0›) ks qs k1 k8 q8 hk hq (x/3) m ‹0› ‹0› ‹0›;refine⟨_,?_,show AL (2*n+2) (.tup (t.map .tup))from AL.tup (by rw[MS];omega) λv hv=>by
    obtain⟨r,h1,rfl⟩:=List.mem_map.mp hv;obtain⟨w1,_,w3⟩:=ht r h1;exact AL.tup ‹0› w3⟩
   rw[eA,gq];unfold fK;simp! only[FZ,Ep,d3,g3,Cg,em,ev]
theorem jL(n:Nat)(hn:n<=2)(ks:KL)(qs:List (Str×D))(k8:ks.length<=8)(q8:qs.length<=8)(hk:∀p∈ks,p.2.gd)(hq:∀q∈qs,KG n q.2)(A:List D)(em:A=(ks.map toD++qs).map fld)(x:Int)(h0:0<=x)(h1:x<2147483700):
  ∃vs:List D,bi bG 2 2 [.tup A,.int x]=.ok (.tup vs)/\vs.length=ks.length+qs.length/\zq ks (vs.take ks.length)/\∀v∈vs,AL 4 v:=by
 obtain⟨vs,ev,v1,v2,v3⟩:=BO n 10 (BD n 11 ‹0›) ks qs k8 q8 hk hq A [] (by rw[MJ];exact em) 0 0 x (by decide) (by decide) h0 h1;have ev:aL 12 [.tup [.tup A,.tup []],.int 0,.int 0,.int x]=.ok (.tup vs):=ev;refine⟨vs,?_,v1,v2,λv h=>AL.le ‹0› (v3 v h)⟩;rw[gq];unfold bG;simp! only[Ky,qu,ev]
theorem zip_get:∀(xs:List D)(i:Nat)(d:D),(km xs xs)[i]?=some d->∃x∈xs,d=.tup [x,x]
 |x::xs,0,d,h=>by cases h;exact⟨x,Mv,rfl⟩
 |x::xs,i+1,d,h=>by
  obtain⟨y,h1,h2⟩:=zip_get xs i d h;exact⟨y,Mw _ h1,h2⟩
theorem ku:∀(n g:Nat)(d:D),n<g->AL n d->bb g [d,d]=.ok (.bl true):=by
 intro n
 induction n with
 |zero=>
  intro g d hg hd;obtain⟨g,rfl⟩:∃g',g=g'+1:=⟨g-1,by omega⟩
  show bi (dF (bb g)) 2 4 [d,d]=_;rw[gq];unfold dF;rcases hd with⟨i,rfl⟩|⟨x,rfl⟩
  ·have t2:n8 "str" (.int i)=some (.bl false):=rfl;have t3:n8 "int" (.int i)=some (.bl true):=rfl;have t4:n8 "bool" (.int i)=some (.bl false):=rfl;simp! only[t2,t3,t4,beq_self_eq_true,Nt]
  ·have t2:n8 "str" (.str x)=some (.bl true):=rfl;simp! only[t2,beq_self_eq_true,Nt]
 |succ n ih=>
  intro g d hg hd;obtain⟨g,rfl⟩:∃g',g=g'+1:=⟨g-1,by omega⟩
  show bi (dF (bb g)) 2 4 [d,d]=_;rw[gq];unfold dF;rcases hd with(⟨i,rfl⟩|⟨x,rfl⟩)|⟨ds,rfl,dl,hds⟩
  ·have t2:n8 "str" (.int i)=some (.bl false):=rfl;have t3:n8 "int" (.int i)=some (.bl true):=rfl;have t4:n8 "bool" (.int i)=some (.bl false):=rfl;simp! only[t2,t3,t4,beq_self_eq_true,Nt]
  ·have t2:n8 "str" (.str x)=some (.bl true):=rfl;simp! only[t2,beq_self_eq_true,Nt]
  ·have t1:n8 "tuple" (.tup ds)=some (.bl true):=rfl;have t2:n8 "str" (.tup ds)=some (.bl false):=rfl;have t3:n8 "int" (.tup ds)=some (.bl false):=rfl;have t4:n8 "bool" (.tup ds)=some (.bl false):=rfl;simp! only[t1,t2,t3,t4,beq_self_eq_true,t6];refine eP (Q:=λz=>z=.ok (.bl true)) (λi ρ=>ρ=[‹.tup ds›,‹.tup ds›,none,none]) ?_ rfl ?_
   ·rintro i d ρ kk hd rfl;obtain⟨x,hx,rfl⟩:=zip_get ds i d hd;have ea:=ih g x ‹0› (hds x hx);refine⟨[‹.tup ds›,‹.tup ds›,‹x›,‹x›],_,rfl,rfl,?_⟩;simp! only[ea]
   ·rintro ρ' rfl;rfl
noncomputable def kq(f:List D):List Key:=(keysOf f).getD []
theorem Ii(q:List Key):kq (q.map bF)=q:=by unfold kq;rw[cy];rfl
theorem wM{σ:List Bool}{f:List D}(h:Sh σ f):(kq f).map bF=f:=by
 obtain⟨q,e⟩:=qz h;rw[e,Ii]
theorem xG{σ:List Bool}{f f':List D}(h:Sh σ f)(h':Sh σ f')(e:kq f=kq f'):f=f':=by
 rw[<-wM h,e,wM h']
theorem yQ:∀(ps al:List (List Key×D)),((al++ps).map (·.1)).Nodup->ps.foldl (λal p=>il al p.1 p.2) al=al++ps
 |[],al,_=>by rw[MJ];rfl
 |p::ps,al,h=>by
  rw[N1];have e:il al p.1 p.2=al++[p]:=by
   unfold il;rw[if_neg];intro z;obtain⟨a,ha,e⟩:=List.any_eq_true.mp z;rw[Nz,M0]at h;exact(List.nodup_append.mp h).2.2 a.1 (List.mem_map.mpr ⟨a,ha,rfl⟩) p.1 Mv (of_decide_eq_true e)
  rw[e,yQ ps (al++[p]) (by rw[NK];exact h),NK];rfl
theorem xu:∀ps:List (List Key×D),kF (ps.map v6)=some ps
 |[]=>rfl
 |p::ps=>by
  show(vF (v6 p)).bind (λq=>(kF (ps.map v6)).map (q::·))=_;rw[xu ps];show((jp (.tup (p.1.map bF))).map _).bind _=_;rw[rN];rfl
variable{τ:List Bool}{m:Nat}
theorem uB{T:List (List D)}(hs:∀r∈T,Sh τ (r.take m))(h:vC m T):T.Pairwise λa b=>a.take m≠b.take m:=
 List.Pairwise.imp_of_mem (λ{a b} ha hb e z=>by rw[z,lT (hs b hb)]at e;cases e) h
structure So(τ:List Bool)(m:Nat)(L:List (List D)):Prop where
 t0:τ≠[]
 hm:m=τ.length
 sh:∀r∈L,Sh τ (r.take m)
 pw:L.Pairwise λa b=>a.take m≠b.take m
 ln:L.length<64
theorem So.prog{L T:List (List D)}(h:So τ m L)(r:vC m T)(p:T.Perm L):bi gZ 2 2 [.int m,.lst (L.map .tup)]=.ok (.tup (T.map .tup)):=by
 have k:HQ m (L.map .tup):=⟨by rw[MS];exact h.ln,τ,h.t0,λx hx=>by
  obtain⟨r,hr,rfl⟩:=List.mem_map.mp hx;exact⟨r,rfl,h.sh r hr⟩,List.pairwise_map.mpr h.pw⟩
 have so:iV (sJ m) (L.map .tup)=T.map .tup:=by
  refine nM (σ:=τ) (λx hx=>?_) ?_ ?_ (p.map _)
  ·obtain⟨r,hr,rfl⟩:=List.mem_map.mp hx;exact h.sh r hr
  ·exact List.pairwise_map.mpr h.pw
  ·exact List.pairwise_map.mpr r
 have e:oR (.lst (L.map .tup)) (.int m)=some (.lst (T.map .tup)):=by
  show(if(0:Int)<=(m:Int)then rZ ((m:Int)).toNat (L.map .tup)else none)=_;rw[if_pos ‹0›,MT];unfold rZ;rw[if_pos k,so]
 rw[gq];unfold gZ;simp! only[e]
theorem G7(xs:List D):y4 [.lst xs]=some (.lst xs):=nr rfl
theorem So.nd{L:List (List D)}(h:So τ m L):L.Nodup:=h.pw.imp λ{a b} ne e=>ne (by rw[e])
theorem So.srt{L:List (List D)}(h:So τ m L):∃T:List (List D),vC m T/\T.Perm L:=
 ⟨iV (λr=>r.take m) L,mF (key:=λr:List D=>r.take m) (σ:=τ) h.sh h.pw,fg _ _⟩
theorem xr{A B:List (List D)}(hA:∀r∈A,Sh τ (r.take m))(a:vC m A)(b:vC m B)(p:B.Perm A):A=B:=by
 have h1:=nM (key:=λr:List D=>r.take m) (σ:=τ) hA (uB hA a) a (List.Perm.refl _);have h2:=nM (key:=λr:List D=>r.take m) (σ:=τ) hA (uB hA a) b p;exact h1.symm.trans h2
theorem So.law{L T:List (List D)}(h:So τ m L)(r:vC m T)(p:T.Perm L):bi aJ 2 4 [.int m,.lst (L.map .tup)]=.ok (.tup (T.map .tup)):=by
 obtain⟨t,et,ri,t1,t2,t3⟩:=oQ h.t0 h.hm L h.sh h.ln;have tsh:∀r∈t,Sh τ (r.take m):=λr hr=>h.sh r (t1 r hr);have inj:∀a∈L,∀b∈L,a.take m=b.take m->a=b:=λa ha b hb e=>by
  by_cases z:a=b
  ·exact z
  ·have:=h.pw
   rw[List.pairwise_iff_forall_sublist]at this;obtain⟨i,hi,rfl⟩:=Nw ha;obtain⟨j,hj,rfl⟩:=Nw hb;rcases Nat.lt_trichotomy i j with q|q|q
   ·exact absurd e (List.pairwise_iff_getElem.mp h.pw i j hi hj q)
   ·subst q;rfl
   ·exact absurd e.symm (List.pairwise_iff_getElem.mp h.pw j i hj hi q)
 have pe:t.Perm L:=(OG ((uB tsh ri).imp λ{a b} ne e=>ne (by rw[e])) h.nd).mpr λa=>⟨t1 a,λha=>by
  obtain⟨b,hb,e⟩:=t3 a ha;rw[<-inj b (t1 b hb) a ha e];exact hb⟩
 rw[et,xr tsh ri r (p.trans pe.symm)]
def mn(i j:Int):Int:=if j<i then j else i
def Kd.srt:Kd->Str
 |.num _ _=>"number"
 |.wrd _=>"word"
def Kd.ok:Kd->Prop
 |.num _ _=>True
 |.wrd ws=>ws.length<=100
def Kd.bad:Kd->Bool
 |.num a b=>decide (b<a)
 |.wrd ws=>ws.isEmpty
def FQ:Kd->Kd->Kd
 |.num a b,.num x y=>.num (mx a x) (mn b y)
 |.wrd ws,.wrd us=>.wrd (ws.filter λw=>us.contains w)
 |k,_=>k
theorem DN:(("number":Str)==("word":Str))=false:=by decide +kernel
theorem Eg{k s:Kd}(h:k.srt=s.srt)(hk:k.ok):bi dB 2 2 [k.d,s.d]=.ok (FQ k s).d:=by
 rw[gq];unfold dB;cases k with
 |num a b=>
  cases s with
  |num x y=>
   simp! only[Kd.d,rh,Hl];rfl
  |wrd us=>exact absurd (show(("number":Str))="word"from h) (by decide +kernel)
 |wrd ws=>
  cases s with
  |num x y=>exact absurd (show(("word":Str))="number"from h) (by decide +kernel)
  |wrd us=>
   have hk:ws.length<=100:=hk;have f0:iW [none,some 1] (bL (f2 aE (ah 0) (fC (.int 1)))) (gN 0) (fB (f2 Df (ah 0) (f2 aE (ah 1) (fC (.int 1))))) (ah 0) [‹.tup [.str "word",.tup (ws.map .str)]›,‹.tup [.str "word",.tup (us.map .str)]›]=.ok (.lst ((ws.filter λw=>us.contains w).map .str)):=by
    refine eY (ds:=ws.map .str) (by simp! only[]) (by rw[MS];omega) ?_;refine j7 D.str (λw=>us.contains w) D.str ws λw _=>⟨_,rfl,?_,rfl⟩
    simp! only[zk]
   simp! only[Kd.d,uX,f0,qu];rfl
abbrev ZP:=(Str×Kd)×(Str×Kd)
structure Mt(c e:Kd):Prop where
 o1:c.ok
 o2:e.ok
 s:c.srt=e.srt
 b:(FQ c e).bad=false
 b':(FQ e c).bad=false
theorem Mt.gd{c e:Kd}(h:Mt c e):(FQ c e).gd:=by
 have b:=h.b;have o:=h.o1;have s:=h.s;cases c with
 |num x y=>cases e with
  |num u v=>
   have b:decide (mn y v<mx x u)=false:=b;show mx x u<=mn y v
   have:=of_decide_eq_false b
   omega
  |wrd us=>cases s
 |wrd ws=>cases e with
  |num u v=>cases s
  |wrd us=>
   refine⟨λz=>?_,Mr (OH _ _) o⟩;have b:(ws.filter λw=>us.contains w).isEmpty=false:=b;rw[z]at b;cases b
theorem Mt.gds{c e:Kd}(h:Mt c e):c.gd/\e.gd/\(FQ c e).b=c.b/\e.b=c.b:=by
 have b:=h.b;have o:=h.o1;have o2:=h.o2;have s:=h.s;cases c with
 |num x y=>cases e with
  |num u v=>
   have b:decide (mn y v<mx x u)=false:=b
   have:=of_decide_eq_false b
   unfold mn mx at this;refine⟨show x<=y from ?_,show u<=v from ?_,rfl,rfl⟩
   ·split at this<;>split at this<;>omega
   ·split at this<;>split at this<;>omega
  |wrd us=>cases s
 |wrd ws=>cases e with
  |num u v=>cases s
  |wrd us=>
   have b:(ws.filter λw=>us.contains w).isEmpty=false:=b;refine⟨⟨λz=>?_,o⟩,⟨λz=>?_,o2⟩,rfl,rfl⟩
   ·rw[z]at b;cases b
   ·have:(ws.filter λw=>us.contains w)=[]:=List.filter_eq_nil_iff.mpr λw _=>by rw[z];simp
    rw[this]at b;cases b
def bk(L:List ZP):KL:=L.map λz=>(z.1.1,FQ z.1.2 z.2.2)
abbrev k1(L:List ZP):KL:=L.map (·.1)
abbrev k2(L:List ZP):KL:=L.map (·.2)
abbrev Ok(L:List ZP):Prop:=∀z∈L,z.1.1=z.2.1/\Mt z.1.2 z.2.2
theorem yR{L:List ZP}(h:Ok L):∀p∈bk L,p.2.gd:=λp hp=>by
 obtain⟨z,hz,rfl⟩:=List.mem_map.mp hp;exact(h z hz).2.gd
theorem C2{α:Type}(f g:α->D)(t:List D):∀L:List α,km (L.map f) (L.map g++t)=L.map λz=>.tup [f z,g z]
 |[]=>by cases t<;>rfl
 |a::L=>by
  rw[M0,M0,M0,<-C2 f g t L];rfl
theorem HJ{L:List ZP}(h:Ok L):∀p∈k1 L,p.2.gd:=λp hp=>by
 obtain⟨z,hz,rfl⟩:=List.mem_map.mp hp;exact(h z hz).2.gds.1
theorem HE{L:List ZP}(h:Ok L):∀p∈k2 L,p.2.gd:=λp hp=>by
 obtain⟨z,hz,rfl⟩:=List.mem_map.mp hp;exact(h z hz).2.gds.2.1
abbrev so(L:List ZP):List Bool:=(bk L).map (·.2.b)
theorem Mj{L:List ZP}(h:Ok L):(k1 L).map (·.2.b)=so L:=by
 unfold so bk;rw[Oc,Oc];exact Ny λz hz=>(h z hz).2.gds.2.2.1.symm
theorem Mh{L:List ZP}(h:Ok L):(k2 L).map (·.2.b)=so L:=by
 unfold so bk;rw[Oc,Oc];exact Ny λz hz=>by
  obtain⟨_,_,a,b⟩:=(h z hz).2.gds;exact b.trans a.symm
theorem vq(L:List ZP):(so L).length=L.length:=by unfold so bk;rw[MS,MS]
theorem vS{L:List ZP}(h:Ok L)(l8:L.length<=8)(t:KL)(a b:D):bi bJ 2 5 [.tup [.tup ((k1 L).map kf),a],.tup [.tup ((k2 L++t).map kf),b]]=.ok (.tup ((bk L).map kf)):=by
 have ze:xI [.tup ((k1 L).map kf),.tup ((k2 L++t).map kf)]=some (L.map λz=>.tup [kf z.1,kf z.2]):=by
  show some (km ((k1 L).map kf) ((k2 L++t).map kf))=_;rw[Oc,Nz,Oc,C2];rfl
 obtain⟨T,hT⟩:∃T:cx,T=(fZ 2 (bR (fL cA (af (ah 2) (av))))):=⟨_,rfl⟩
 rw[gq];unfold bJ;rw[<-hT];simp! only[EF,ze];generalize hA:D.tup [.tup ((k1 L).map kf),a]=A;generalize hB:D.tup [.tup ((k2 L++t).map kf),b]=B;refine eP (Q:=λz=>z=.ok (.tup ((bk L).map kf))) (λi ρ=>ρ=[‹A›,‹B›,some (.own (.lst ((bk (L.take i)).map kf))),none,none]) ?_ rfl ?_
 ·rintro i d ρ kk hd rfl;have hi:=cT hd;rw[MS]at hi;rw[MP,Nq hi]at hd;cases hd;obtain⟨_,mt⟩:=h L[i] (N8 hi);have ib:=Eg mt.s mt.o1;have ap:eQ ((bk (L.take i)).map kf) [.tup [.str L[i].1.1,(FQ L[i].1.2 L[i].2.2).d]]=some ((bk (L.take (i+1))).map kf):=by
   unfold bk;rw[jk (by rw[MS,MS,ML];omega),OD hi,Nz,Nz];rfl
  refine⟨[‹A›,‹B›,some (.own (.lst ((bk (L.take i)).map kf))),‹kf L[i].1›,‹kf L[i].2›],_,rfl,rfl,?_⟩;have sm:=λK:Ks=>jm 2 eQ (af (bT (af (f2 aE (ah 3) (fC (.int 0))) (af (fR (bi dB 2 2) (af (f2 aE (ah 3) (fC (.int 1))) (af (f2 aE (ah 4) (fC (.int 1))) (av)))) (av)))) (av)) K [‹A›,‹B›,some (.own (.lst ((bk (L.take i)).map kf))),‹kf L[i].1›,‹kf L[i].2›] (xs:=(bk (L.take i)).map kf) rfl;have j0:aE (kf L[i].1) (.int 0)=some (.str L[i].1.1):=rfl;have j1:aE (kf L[i].1) (.int 1)=some L[i].1.2.d:=rfl;have j2:aE (kf L[i].2) (.int 1)=some L[i].2.2.d:=rfl;generalize (bk (L.take (i+1))).map kf=Y at ap ⊢;generalize (bk (L.take i)).map kf=Z at ap sm ⊢;simp! only[sm,j0,j1,j2,ib,qu,ap]
 ·rintro ρ' rfl;rw[MS,Oh (MC _),hT];simp! only[]
theorem yx(x:Int):∃us:List Str,us≠[]/\us.length<=8/\bi dj 1 6 [.int x]=.ok (.lst (us.map .str)):=by
 have g26:=gm 26;have d26:=gd 26;have LL:(("abcdefghijklmnopqrstuvwxyz":Str)).length=26:=by decide +kernel
 generalize hL:("abcdefghijklmnopqrstuvwxyz":Str)=L at LL;obtain⟨one,ho,e1⟩:=qo L ‹0› (x%26) ‹0› ‹0›;obtain⟨oth,hq,e2⟩:=qo L ‹0› (x/26%26) ‹0› ‹0›;have a1:=hU one oth ‹0› ‹0›;have a2:=hU oth one ‹0› ‹0›;have a3:=hU one one ‹0› ‹0›;have m1:=C8 (x:=one) (n:=8) (by decide) (by decide) ‹0›;have m2:=C8 (x:=oth) (n:=3) (by decide) (by decide) ‹0›;generalize hW:[D.str "",.str one,.str oth,.str (one++oth),.str (oth++one),.str (jD one 8),.str (one++one),.str (jD oth 3)]=W;have W8:W.length=8:=by rw[<-hW];rfl
 have Ws:∀d∈W,∃w:Str,d=.str w:=by
  rw[<-hW];intro d hd;simp only[NP,OC,or_false]at hd;rcases hd with rfl|rfl|rfl|rfl|rfl|rfl|rfl|rfl<;>exact⟨_,rfl⟩
 have mW:kI W=some (.lst W):=Cd ‹0›;obtain⟨T,hT⟩:∃T:cx,T=(fZ 4 (bR (fL eW (af (fL kU (af (ah 4) (av))) (av))))):=⟨_,rfl⟩
 rw[pI];unfold dj;rw[<-hT];simp! only[hL,g26,e1,d26,e2,vz,a1,a2,a3,m1,m2,hW,mW];refine eP (Q:=λz=>∃us:List Str,us≠[]/\us.length<=8/\z=.ok (.lst (us.map .str))) (λi ρ=>∃ws:List Str,ws.Nodup/\ws.length<=i/\(0<i->ws≠[])/\ρ=[none,none,‹.str one›,‹.str oth›,some (.own (wd ws)),none]) ?_ ⟨[],Nb,MC _,λh=>by omega,rfl⟩ ?_
 ·rintro i d ρ kk hd ⟨ws,nd,hl,hn,rfl⟩;have hi:=cT hd;obtain⟨w,rfl⟩:=Ws d (MQ hd);have pn:pC ws w≠[]:=by
   unfold pC;split
   ·rename_i h;intro z;rw[z]at h;simp at h
   ·simp
  refine⟨_,_,rfl,⟨pC ws w,vp w nd,by have:=rC ws w;omega,λ_=>pn,rfl⟩,?_⟩;have pk:=λk:Ks=>uE (i:=4) (fk:=ah 5) (fv:=fC (.bl true)) (k:=k) (ρ:=[none,none,‹.str one›,‹.str oth›,some (.own (wd ws)),‹.str w›]) (al:=zm ws) (q:=.inr w) (d:=.str w) (v:=.bl true) rfl rfl rfl rfl (by simp;omega);simp! only[pk,yE]
 ·rintro ρ' ⟨ws,nd,hl,hn,rfl⟩;rw[W8]at hl hn;obtain⟨us,eu,pu⟩:=E9 ws nd ‹0›;refine⟨us,λz=>hn (by decide) (by rw[z]at pu;exact pu.symm.eq_nil),by rw[pu.length_eq];exact hl,?_⟩;rw[hT];simp! only[wX,eu]
theorem wm:∀(us:List Str)(i:Nat),kM i (us.map .str)=(us.zipIdx i).map λp=>.tup [.int (p.2:Int),.str p.1]
 |[],_=>rfl
 |u::us,i=>by
  rw[M0,kM,wm us (i+1),NN,M0]
theorem Mt.swap{c e:Kd}(h:Mt c e):Mt e c:=⟨h.o2,h.o1,h.s.symm,h.b',h.b⟩
theorem GI{lo w f g:Int}(h1:0<=f)(h2:f<=w)(h3:0<=g):Mt (.num lo (lo+w)) (.num (lo+f) (lo+f+g)):=by
 refine⟨trivial,trivial,rfl,?_,?_⟩
 ·show decide (mn (lo+w) (lo+f+g)<mx lo (lo+f))=false;refine decide_eq_false ?_;unfold mn mx;split<;>split<;>omega
 ·show decide (mn (lo+f+g) (lo+w)<mx (lo+f) lo)=false;refine decide_eq_false ?_;unfold mn mx;split<;>split<;>omega
theorem Gd{a b:List Str}{w:Str}(h1:w∈a)(h2:w∈b)(l1:a.length<=100)(l2:b.length<=100):Mt (.wrd a) (.wrd b):=by
 refine⟨l1,l2,rfl,?_,?_⟩
 ·show(a.filter λw=>b.contains w).isEmpty=false
  have:w∈a.filter λw=>b.contains w:=List.mem_filter.mpr ⟨h1,by simpa using h2⟩
  cases h:a.filter λw=>b.contains w with
  |nil=>rw[h]at this;cases this
  |cons _ _=>rfl
 ·show(b.filter λw=>a.contains w).isEmpty=false
  have:w∈b.filter λw=>a.contains w:=List.mem_filter.mpr ⟨h2,by simpa using h1⟩
  cases h:b.filter λw=>a.contains w with
  |nil=>rw[h]at this;cases this
  |cons _ _=>rfl
theorem Ez(a b c d i:Int)(h0:0<=i)(h1:i<4):∃x:Int,(x=a\/x=b\/x=c\/x=d)/\aE (.lst [.int a,.int b,.int c,.int d]) (.int i)=some (.int x):=by
 rcases(show i=0\/i=1\/i=2\/i=3 by omega)with z|z|z|z<;>subst z
 ·exact⟨a,by simp,rfl⟩
 ·exact⟨b,by simp,rfl⟩
 ·exact⟨c,by simp,rfl⟩
 ·exact⟨d,by simp,rfl⟩
def bit(y m:Int)(j:Nat):Bool:=Builtin.bitAnd (y/m/2^j) 1==1
theorem zE(us:List Str)(hl:us.length<=8)(sp:Str)(hs:sp∈us)(y m:Int)(h0:0<m)(h1:m<10^200)(x0 x2 x3 x4 x5 x6:Option S):∃ws:List Str,ws.length<=8/\sp∈ws/\iW [none,none,some 8,some 1] (gJ (af (ah 7) (av))) (gT 2 (nH [0,1])) (BG (fB (f2 kJ (ah 1) (ah 2))) (fB (f2 kJ (f2 sd (f2 yt (f2 cW (ah 3) (fC (.int m))) (ah 0)) (fC (.int 1))) (fC (.int 1))))) (ah 1) [x0,‹.int y›,x2,x3,x4,x5,x6,‹.lst (us.map .str)›,‹.str sp›]=.ok (.lst (ws.map .str)):=by
 have dm:=λi=>kX (i:=i) h0 h1;have en:ux [.lst (us.map .str)]=some ((us.zipIdx 0).map λp=>.tup [.int (p.2:Int),.str p.1]):=by
  show some (kM 0 (us.map .str))=_;rw[wm]
 refine⟨((us.zipIdx 0).filter λp=>(p.1==sp)||bit y m p.2).map (·.1),?_,?_,?_⟩
 ·rw[MS];refine Mr (OH _ _) ?_;rw[OI];exact hl
 ·obtain⟨j,hj,e⟩:=Nw hs;refine List.mem_map.mpr ⟨(sp,j),List.mem_filter.mpr ⟨?_,by simp⟩,rfl⟩;rw[List.mem_iff_getElem?];refine⟨j,?_⟩;rw[List.getElem?_zipIdx,Nq hj,e];simp
 ·refine eY (ds:=(us.zipIdx 0).map λp=>.tup [.int (p.2:Int),.str p.1]) (by simp! only[en]) (by rw[MS,OI];omega) ?_;refine Eq.trans (j7 (ρ:=[none,none,‹.str sp›,‹.int y›]) (g:=gT 2 (nH [0,1])) (λp:Str×Nat=>D.tup [.int (p.2:Int),.str p.1]) (λp=>(p.1==sp)||bit y m p.2) (D.str∘λp:Str×Nat=>p.1) (us.zipIdx 0) λp _=>⟨[‹.int (p.2:Int)›,‹.str p.1›,‹.str sp›,‹.int y›],rfl,?_,?_⟩) (by rw[Oc])
  ·have sh:=BL (y/m) p.2;unfold bit;cases h:(p.1==sp)<;>simp! only[h,dm,sh,uN,M3,M4]
  ·simp! only[];rfl
theorem uF(x:Int)(h0:0<=x)(h1:x<2147483700):∃c e:Kd,Mt c e/\bi dA 1 9 [.int x]=.ok (.tup [c.d,e.d]):=by
 obtain⟨y,y0,y1,ey⟩:=eN x h0 h1;have g2:=gm 2;have g3:=gm 3;have g4:=gm 4;have d3:=gd 3;have d12:=gd 12;have d48:=gd 48;have d200:=gd 200;have p7:jU (.int y) (.int 7)=some (.int (y^7)):=uT y 7 (by decide) ‹0›;have pb:=EQ;have gp:=λi=>eS (i:=i) (show(0:Int)<zX by omega);obtain⟨lo,_,e1⟩:=Ez 0 (-3) (0-y^7%zX) (y^7%zX) (x/3%4) ‹0› ‹0›;obtain⟨wd',hw,e2⟩:=Ez 0 1 6 zX (x/12%4) ‹0› ‹0›;obtain⟨ex,hx,e3⟩:=Ez 0 2 9 zX (x/48%4) ‹0› ‹0›;have w0:0<=wd':=by omega
 have x0:0<=ex:=by omega
 have gw:=λi=>eS (i:=i) (show(0:Int)<wd'+1 by omega);have f0:=Oz (y^7) (show wd'+1≠0 by omega);have f1:=OA (y^7) (show 0<wd'+1 by omega);obtain⟨T,hT⟩:∃T:cx,T=(aH (jt (fB (f2 kJ (f2 cq (f2 cW (ah 0) (fC (.int 200))) (fC (.int 2))) (fC (.int 1)))) (bR (bT (af (ah 6) (af (ah 5) (av))))) (cz)) (bR (bT (af (ah 5) (af (ah 6) (av)))))):=⟨_,rfl⟩
 have fin:∀(c e:Kd)(x1 x2 x3 x4 x7 x8:Option S),Mt c e->∃c' e':Kd,Mt c' e'/\T K0 [‹.int x›,x1,x2,x3,x4,‹c.d›,‹e.d›,x7,x8]=.ok (.tup [c'.d,e'.d]):=λc e x1 x2 x3 x4 x7 x8 m=>by
  rw[hT];cases hb:(x/200%2==1)with
  |true=>exact⟨e,c,m.swap,by simp! only[d200,g2,hb,qu]⟩
  |false=>exact⟨c,e,m,by simp! only[d200,g2,hb,qu]⟩
 rw[pI];unfold dA;rw[<-hT];simp only[K0]at fin;cases h3:(x%3==2)with
 |false=>
  obtain⟨c',e',m,e⟩:=fin (.num lo (lo+wd')) (.num (lo+y^7%(wd'+1)) (lo+y^7%(wd'+1)+ex)) (‹.int y›) (‹.int lo›) (‹.int wd'›) (‹.int (y^7%(wd'+1))›) none none (GI f0 ‹0› x0);unfold Kd.d at e;refine⟨c',e',m,?_⟩;refine Eq.trans ?_ e;simp! only[ey,p7,xR,gp,HK,d3,g4,e1,d12,e2,gw,Hl,d48,e3,g3,h3]
 |true=>
  obtain⟨us,u1,u2,eu⟩:=yx (x/3);have ul:0<us.length:=by
   cases us with
   |nil=>exact absurd rfl u1
   |cons _ _=>simp
  have gu:=λi=>eS (i:=i) (show(0:Int)<(us.length:Int)by omega);have q1:=Oz y (show(us.length:Int)≠0 by omega);have q2:=OA y (show(0:Int)<(us.length:Int)by omega);obtain⟨sp,hs,es⟩:∃sp∈us,aE (.lst (us.map .str)) (.int (y%(us.length:Int)))=some (.str sp):=by
   refine⟨us[(y%(us.length:Int)).toNat]'‹0›,N8 _,?_⟩;rw[Hc,uO,ot q1 q2];rfl
  obtain⟨A,a1,a2,ea⟩:=zE us u2 sp hs y 9 (by decide) (by decide) (‹.int x›) (‹.int lo›) (‹.int wd'›) (‹.int (y^7%(wd'+1))›) (‹.tup [.str "number",.int lo,.int (lo+wd')]›) (‹.tup [.str "number",.int (lo+y^7%(wd'+1)),.int (lo+y^7%(wd'+1)+ex)]›);obtain⟨B,b1,b2,eb⟩:=zE us u2 sp hs y 3000 (by decide) (by decide) (‹.int x›) (‹.int lo›) (‹.int wd'›) (‹.int (y^7%(wd'+1))›) (‹.tup [.str "word",.tup (A.map .str)]›) (‹.tup [.str "number",.int (lo+y^7%(wd'+1)),.int (lo+y^7%(wd'+1)+ex)]›);obtain⟨c',e',m,e⟩:=fin (.wrd A) (.wrd B) (‹.int y›) (‹.int lo›) (‹.int wd'›) (‹.int (y^7%(wd'+1))›) (‹.lst (us.map .str)›) (‹.str sp›) (Gd a2 b2 ‹0› ‹0›);unfold Kd.d at e;refine⟨c',e',m,?_⟩;refine Eq.trans ?_ e;simp! only[ey,p7,xR,gp,HK,d3,g4,e1,d12,e2,gw,Hl,d48,e3,g3,h3,eu,MS,gu,es,ea,eb,qu]
theorem vY(x b:Int)(m:Nat)(h0:0<=x)(h1:x<2147483700)(hb:0<=b)(hm:m<=8):∃L:List ZP,L.length=m/\(∀q∈L,q.1.1=q.2.1/\Mt q.1.2 q.2.2/\∃j:Nat,j<m/\yH b j q.1.1)/\bi dP 3 7 [.int x,.int b,.int m]=.ok (.tup [.tup ((L.map (·.1)).map kf),.tup ((L.map (·.2)).map kf)]):=by
 have rn:=iI m ‹0›;obtain⟨T,hT⟩:∃T:cx,T=(fZ 4 (fZ 3 (bR (bT (af (fL cA (af (ah 3) (av))) (af (fL cA (af (ah 4) (av))) (av))))))):=⟨_,rfl⟩
 rw[oK];unfold dP;rw[<-hT];simp! only[EF,rn];refine eP (Q:=λz=>∃L:List ZP,L.length=m/\(∀q∈L,q.1.1=q.2.1/\Mt q.1.2 q.2.2/\∃j:Nat,j<m/\yH b j q.1.1)/\z=.ok (.tup [.tup ((L.map (·.1)).map kf),.tup ((L.map (·.2)).map kf)]))
  (λi ρ=>∃(y:Int)(L:List ZP),0<=y/\y<2147483700/\L.length=i/\(∀q∈L,q.1.1=q.2.1/\Mt q.1.2 q.2.2/\∃j:Nat,j<m/\yH b j q.1.1)/\ρ=[‹.int y›,‹.int b›,‹.int m›,some (.own (.lst ((L.map (·.1)).map kf))),some (.own (.lst ((L.map (·.2)).map kf))),none,none]) ?_ ⟨x,[],h0,h1,rfl,(λ_ h=>nomatch h),rfl⟩ ?_
 ·rintro i d ρ kk hd ⟨y,L,y0,y1,ll,hq,rfl⟩;have hi:=cT hd;rw[cu]at hi;have hdi:d=.int (i:Int):=by
   rw[iL,MP,NE hi]at hd;cases hd;simp
  subst hdi;obtain⟨y',y0',y1',ey⟩:=eN y y0 y1;obtain⟨c,e,mt,ek⟩:=uF y' y0' ‹0›;obtain⟨nm,en,hnm⟩:=yY b (i:Int) hb ‹0›;have i0:aE (.tup [c.d,e.d]) (.int 0)=some c.d:=rM _ _;have i1:aE (.tup [c.d,e.d]) (.int 1)=some e.d:=rfl;have ap1:eQ ((L.map (·.1)).map kf) [.tup [.str nm,c.d]]=some (((L++[((nm,c),(nm,e))]).map (·.1)).map kf):=by
   rw[jk (by rw[MS,MS];omega),Nz,Nz];rfl
  have ap2:eQ ((L.map (·.2)).map kf) [.tup [.str nm,e.d]]=some (((L++[((nm,c),(nm,e))]).map (·.2)).map kf):=by
   rw[jk (by rw[MS,MS];omega),Nz,Nz];rfl
  refine⟨_,_,rfl,⟨y',L++[((nm,c),(nm,e))],y0',by omega,by rw[MR,MY];omega,λq hm=>?_,rfl⟩,?_⟩
  ·rcases List.mem_append.mp hm with z|z
   ·exact hq q z
   ·rw[List.mem_singleton.mp z];exact⟨rfl,mt,i,hi,hnm⟩
  ·generalize ((L++[((nm,c),(nm,e))]).map (·.1)).map kf=Y1 at ap1 ⊢;generalize ((L++[((nm,c),(nm,e))]).map (·.2)).map kf=Y2 at ap2 ⊢;generalize (L.map (·.1)).map kf=Z1 at ap1 ⊢;generalize (L.map (·.2)).map kf=Z2 at ap2 ⊢;have sm1:=λK:Ks=>jm 3 eQ (af (bT (af (fR (bi bU 2 7) (af (ah 1) (af (ah 5) (av)))) (af (f2 aE (ah 6) (fC (.int 0))) (av)))) (av)) K [‹.int y'›,‹.int b›,‹.int m›,some (.own (.lst Z1)),some (.own (.lst Z2)),‹.int i›,‹.tup [c.d,e.d]›] (xs:=Z1) rfl;have sm2:=λK:Ks=>jm 4 eQ (af (bT (af (fR (bi bU 2 7) (af (ah 1) (af (ah 5) (av)))) (af (f2 aE (ah 6) (fC (.int 1))) (av)))) (av)) K [‹.int y'›,‹.int b›,‹.int m›,some (.own (.lst Y1)),some (.own (.lst Z2)),‹.int i›,‹.tup [c.d,e.d]›] (xs:=Z2) rfl;simp! only[ey,ek,sm1,en,i0,qu,ap1,sm2,i1,ap2]
 ·rintro ρ' ⟨y,L,y0,y1,ll,hq,rfl⟩;rw[cu]at ll;refine⟨L,ll,hq,?_⟩;rw[hT];simp! only[qu]
theorem Ml(a b c d e f g h:D)(i:Int)(h0:0<=i)(h1:i<8):∃x∈[a,b,c,d,e,f,g,h],aE (.lst [a,b,c,d,e,f,g,h]) (.int i)=some x:=by
 rcases(show i=0\/i=1\/i=2\/i=3\/i=4\/i=5\/i=6\/i=7 by omega)with z|z|z|z|z|z|z|z<;>subst z
 ·exact⟨a,by simp,rfl⟩
 ·exact⟨b,by simp,rfl⟩
 ·exact⟨c,by simp,rfl⟩
 ·exact⟨d,by simp,rfl⟩
 ·exact⟨e,by simp,rfl⟩
 ·exact⟨f,by simp,rfl⟩
 ·exact⟨g,by simp,rfl⟩
 ·exact⟨h,by simp,rfl⟩
theorem l2(a b:D):kI [a,b]=some (.lst [a,b]):=nr rfl
theorem JV(x e:Int)(e1:1<=e)(e8:e<=8):∃m:Nat,1<=m/\m<=8/\(m:Int)<=max 3 e/\aE (.lst [.int 1,.int 2,.int 1,.int 3,.int 2,.int 1,.int 2,.int e]) (.int (x%8))=some (.int (m:Int)):=by
 obtain⟨d,hd,ed⟩:=Ml (.int 1) (.int 2) (.int 1) (.int 3) (.int 2) (.int 1) (.int 2) (.int e) (x%8) ‹0› ‹0›;obtain⟨m,rfl,h⟩:∃m:Nat,d=.int (m:Int)/\1<=m/\m<=8/\(m:Int)<=max 3 e:=by
  simp only[NP,OC,or_false]at hd;rcases hd with rfl|rfl|rfl|rfl|rfl|rfl|rfl|rfl
  ·exact⟨1,rfl,by omega⟩
  ·exact⟨2,rfl,by omega⟩
  ·exact⟨1,rfl,by omega⟩
  ·exact⟨3,rfl,by omega⟩
  ·exact⟨2,rfl,by omega⟩
  ·exact⟨1,rfl,by omega⟩
  ·exact⟨2,rfl,by omega⟩
  ·exact⟨e.toNat,by congr 1;omega,by omega⟩
 exact⟨m,h.1,h.2.1,h.2.2,ed⟩
theorem Ik(x:Int):∃dp:Nat,dp<=2/\aE (.lst [.int 0,.int 0,.int 1,.int 2]) (.int (x%4))=some (.int (dp:Int)):=by
 obtain⟨z,hz,ez⟩:=Ez 0 0 1 2 (x%4) ‹0› ‹0›;rcases hz with rfl|rfl|rfl|rfl
 ·exact⟨0,by decide,ez⟩
 ·exact⟨0,by decide,ez⟩
 ·exact⟨1,by decide,ez⟩
 ·exact⟨2,by decide,ez⟩
theorem tX(dp:Nat)(hd:dp<=2)(x b st:Int)(r:Nat)(h0:0<=x)(h1:x<2147483700)(hb:0<=b)(hs:0<=st)(hr:r<=8):∃qs:List (Str×D),aN 12 [.int x,.int b,.int st,.int 0,.int r,.int dp]=.ok (.tup [.tup [],.tup (qs.map fld)])/\qs.length=r/\(∀q∈qs,KG dp q.2)/\∀(j:Nat)(w:Str),(qs.map (·.1))[j]?=some w->yH b (st+(j:Int)) w:=by
 obtain⟨ks,qs,e,k0,ql,_,hq,nm⟩:=Dp dp ‹0› x b st 0 r h0 h1 hb hs ‹0› hr
 have:=List.length_eq_zero_iff.mp k0
 subst this;exact⟨qs,e,ql,hq,nm⟩
theorem t0(a b:D):aE (.tup [a,b]) (.int 0)=some a:=rfl
theorem t1(a b:D):aE (.tup [a,b]) (.int 1)=some b:=rfl
theorem AQ(ns:List Int):∃(L:List ZP)(r q:List (Str×D))(n:Nat),1<=L.length/\L.length<=8/\r.length+q.length<=8/\Ok L/\n<=2/\(∀f∈r,KG n f.2)/\(∀f∈q,KG n f.2)/\(∀w∈r.map (·.1),w∉q.map (·.1))/\bi cN 1 8 [.lst (ns.map .int)]=.ok (.tup [fr (k1 L) r,fr (k2 L) q]):=by
 obtain⟨x,x0,x1,ex⟩:=vB ns 0 ‹0›;obtain⟨c1,e1⟩:=TD.Jp ns 1 (by decide);have ex:bi cH 2 3 [.lst (ns.map .int),.int 0]=.ok (.int x):=ex;have mm:=λi=>qm (i:=i) (j:=48271) (by decide) (by decide);have gM:=gm 2147483647;have g4:=gm 4;have g8:=gm 8;have g9:=gm 9;have d8:=gd 8;have d32:=gd 32;have d64:=gd 64;have d512:=gd 512;have d2048:=gd 2048;obtain⟨b,hb,b0⟩:∃b:Int,c1*48271%2147483647=b/\0<=b:=⟨_,rfl,Oz _ (by decide)⟩
 obtain⟨y,y0,y1,ey⟩:=eN x x0 ‹0›;obtain⟨m,m1,m8,_,em⟩:=JV x (1+x/64%8) ‹0› ‹0›;obtain⟨L,ll,hq,ek⟩:=vY y b m y0 ‹0› b0 m8;obtain⟨dp,dp2,ed⟩:=Ik (x/8);have l0:∀a b:D,aE (.lst [a,b]) (.int 0)=some a:=λ_ _=>rfl;have l1:∀a b:D,aE (.lst [a,b]) (.int 1)=some b:=λ_ _=>rfl;obtain⟨T,hT⟩:∃T:cx,T=(aH (bB 6 (f2 aE (fR (aN 12) (af (f2 bK (fR (bi aG 1 1) (af (ah 1) (av))) (fC (.int 1))) (af (ah 2) (af (fC (.int 8)) (af (fC (.int 0)) (af (f2 aE (ah 5) (fC (.int 0))) (af (ah 4) (av)))))))) (fC (.int 1)))) (aH (bB 7 (f2 aE (fR (aN 12) (af (f2 bK (fR (bi aG 1 1) (af (ah 1) (av))) (fC (.int 2))) (af (ah 2) (af (fC (.int 16)) (af (fC (.int 0)) (af (f2 aE (ah 5) (fC (.int 1))) (af (ah 4) (av)))))))) (fC (.int 1)))) (bR (bT (af (bT (af (f2 aE (ah 3) (fC (.int 0))) (af (ah 6) (av)))) (af (bT (af (f2 aE (ah 3) (fC (.int 1))) (af (ah 7) (av)))) (av))))))):=⟨_,rfl⟩
 have fin:∀(u v dp:Nat)(k5 k4:D),u+v<=8->dp<=2->k5=.lst [.int u,.int v]->k4=.int dp->∃(r q:List (Str×D)),r.length+q.length<=8/\(∀f∈r,KG dp f.2)/\(∀f∈q,KG dp f.2)/\(∀w∈r.map (·.1),w∉q.map (·.1))/\T K0 [‹.lst (ns.map .int)›,‹.int x›,‹.int b›,‹.tup [.tup ((L.map (·.1)).map kf),.tup ((L.map (·.2)).map kf)]›,‹k4›,‹k5›,none,none]=.ok (.tup [fr (k1 L) r,fr (k2 L) q]):=λu v dp k5 k4 h1 h2 e5 e4=>by
  subst e5 e4;obtain⟨r,er,rl,hr,n1⟩:=tX dp h2 (y+1) b 8 u ‹0› ‹0› b0 ‹0› ‹0›;obtain⟨q,eq,ql,hq',n2⟩:=tX dp h2 (y+2) b 16 v ‹0› ‹0› b0 ‹0› ‹0›;refine⟨r,q,by omega,hr,hq',λw h1 h2=>?_,?_⟩
  ·obtain⟨i,hi,ei⟩:=Nw h1;obtain⟨j,hj,ej⟩:=Nw h2;have a:=n1 i w (by rw[Nq hi,ei]);have c:=n2 j w (by rw[Nq hj,ej]);rw[MS]at hi hj
   have:=Dh ‹0› ‹0› ‹0› ‹0› a c
   omega
  rw[hT];simp! only[ey,l0,l1,t0,t1,er,eq,qu]
 rw[pI];unfold cN;rw[<-hT];simp only[K0]at fin;have ok:Ok L:=λz hz=>⟨(hq z hz).1,(hq z hz).2.1⟩
 cases h3:(x/32%8==3)with
 |true=>
  obtain⟨r,q,h1,h2,h4,h5,e⟩:=fin (x/512%9).toNat (8-x/512%9).toNat 0 (.lst [.int (x/512%9),.int (8-x/512%9)]) (.int 0) ‹0› (by decide) (by rw[OJ ‹0›,OJ ‹0›]) rfl;refine⟨L,r,q,0,by omega,by omega,h1,ok,by decide,h2,h4,h5,Eq.trans ?_ e⟩;simp! only[ex,e1,mm,gM,hb,ey,d64,g8,LK,em,ek,d8,g4,HK,ed,d512,d2048,l2,d32,h3,g9]
 |false=>
  obtain⟨r,q,h1,h2,h4,h5,e⟩:=fin (x/512%4).toNat (x/2048%4).toNat dp (.lst [.int (x/512%4),.int (x/2048%4)]) (.int dp) ‹0› dp2 (by rw[OJ ‹0›,OJ ‹0›]) rfl;refine⟨L,r,q,dp,by omega,by omega,h1,ok,dp2,h2,h4,h5,Eq.trans ?_ e⟩;simp! only[ex,e1,mm,gM,hb,ey,d64,g8,LK,em,ek,d8,g4,HK,ed,d512,d2048,l2,d32,h3]
section
open Classical
variable{τ:List Bool}{m:Nat}
theorem So.sub{L M:List (List D)}(h:So τ m M)(s:L.Sublist M):So τ m L:=
 ⟨h.t0,h.hm,λr hr=>h.sh r (s.subset hr),h.pw.sublist s,NI s.length_le h.ln⟩
noncomputable abbrev ak(m:Nat)(V:List (List D)):List (List Key×D):=V.map λr=>(kq (r.take m),D.tup r)
theorem Bu{V:List (List D)}(h:So τ m V)(X:D)(hX:X=.lst (V.map .tup)\/X=.tup (V.map .tup)):bi fS 2 2 [.int m,X]=.ok (eL (ak m V)):=by
 have ln:=h.ln;have f2':iW [none,some 0] (bL (ah 1)) (gN 0) (dZ) (bT (af (bw (ah 0) (aY) (bV (ah 1))) (af (ah 0) (av)))) [‹.int m›,‹X›]=.ok (.lst ((ak m V).map v6)):=by
  refine eY (ds:=V.map .tup) (by rcases hX with rfl|rfl<;>simp! only[]) (by rw[MS];omega) ?_;rw[Oc];refine nW D.tup _ V λr hr=>⟨[‹.tup r›,‹.int m›],rfl,rfl,?_⟩
  simp! only[fG,qu];show _=Except.ok (D.tup [.tup ((kq (r.take m)).map bF),.tup r]);rw[wM (h.sh r hr)]
 have knd:((ak m V).map (·.1)).Nodup:=by
  rw[Oc];exact List.pairwise_map.mpr (List.Pairwise.imp_of_mem (λ{a b} ha hb ne e=>ne (xG (h.sh a ha) (h.sh b hb) e)) h.pw)
 have gd:uU [.lst ((ak m V).map v6)]=some (eL (ak m V)):=by
  show(kF _).bind _=_;rw[xu];show(if small _ then _ else _)=_;rw[if_pos (dJ (by rw[MS];omega))];unfold BM;rw[yQ _ [] knd];rfl
 rw[gq];unfold fS;generalize eL (ak m V)=Z at gd;simp! only[f2',gd]
theorem CA{V:List (List D)}(h:So τ m V){f:List D}(zs:Sh τ f):iE (.tup f) (eL (ak m V))=some (.bl (!decide (f∈V.map λr=>r.take m))):=by
 show(ng (encK _) ((ak m V).map (·.2)) (.tup f)).bind wL=_;unfold ng;rw[ou];show((jp (.tup f)).bind λk=>some (D.bl ((ak m V).any λp=>decide (p.1=k)))).bind wL=_;have e:jp (.tup f)=some (kq f):=by
  conv=>lhs;rw[<-wM zs]
  exact cy _
 rw[e];show some (D.bl (!((ak m V).any λp=>decide (p.1=kq f))))=_;congr 3;rw[Bool.eq_iff_iff,OB,decide_eq_true_iff];constructor
 ·rintro⟨p,hp,e⟩;obtain⟨a,ha,rfl⟩:=List.mem_map.mp hp;exact List.mem_map.mpr ⟨a,ha,xG (h.sh a ha) zs (of_decide_eq_true e)⟩
 ·intro z;obtain⟨a,ha,e⟩:=List.mem_map.mp z;exact⟨_,List.mem_map.mpr ⟨a,ha,rfl⟩,decide_eq_true (by show kq (a.take m)=_;rw[show a.take m=f from e])⟩
theorem IJ{V:List (List D)}(h:So τ m V){f:List D}(zs:Sh τ f):xU (.tup f) (eL (ak m V))=some (.bl (decide (f∈V.map λr=>r.take m))):=by
 have:=CA h zs
 have e:iE (.tup f) (eL (ak m V))=(xU (.tup f) (eL (ak m V))).bind wL:=rfl;rw[e]at this;cases hg:xU (.tup f) (eL (ak m V))with
 |none=>rw[hg]at this;cases this
 |some d=>
  rw[hg]at this;cases d with
  |bl b=>
   have this:some (D.bl (!b))=some (.bl (!decide (f∈V.map λr=>r.take m))):=this;injection this with this;injection this with this
   have:b=decide (f∈V.map λr=>r.take m):=by
    generalize decide (f∈V.map λr=>r.take m)=y at this;cases b<;>cases y<;>first|rfl|cases this
   rw[this]
  |_=>cases this
theorem Gu{V:List (List D)}(h:So τ m V){c:List D}(hc:c∈V):q5 (eL (ak m V)) (.tup (c.take m))=some (.tup c):=by
 have knd:((ak m V).map (·.1)).Nodup:=by
  rw[Oc];exact List.pairwise_map.mpr (List.Pairwise.imp_of_mem (λ{a b} ha hb ne e=>ne (xG (h.sh a ha) (h.sh b hb) e)) h.pw)
 have e:=C5 (ak m V) (kq (c.take m));rw[wM (h.sh c hc)]at e;rw[e];exact qP knd (List.mem_map.mpr ⟨c,hc,rfl⟩)
theorem Ge:∀{V:List (List D)}{c:List D},V.Pairwise (λa b=>a.take m≠b.take m)->c∈V->V.filter (λx=>decide (x.take m=c.take m))=[c]
 |b::V,c,pw,hc=>by
  obtain⟨p1,p2⟩:=List.pairwise_cons.mp pw;rcases List.mem_cons.mp hc with e|e
  ·subst e;rw[N6 (by simp),List.filter_eq_nil_iff.mpr λx hx=>by simpa using(p1 x hx).symm]
  ·rw[N7 (by simpa using p1 c e),Ge p2 e]
theorem Fg{V T R F:List (List D)}(hF:F=T.filter λr=>!decide (r.take m∈V.map λr=>r.take m))(s:So τ m (V++F))(hT:∀r∈T,Sh τ (r.take m))(tl:T.length<64)(ri:vC m R)(p:R.Perm (V++F))(Y:D)(hY:Y=.lst (T.map .tup)\/Y=.tup (T.map .tup)):bi gF 3 4 [.int m,.lst (V.map .tup),Y]=.ok (.tup (R.map .tup)):=by
 have hV:=s.sub (List.sublist_append_left V F);have b:=Bu hV (.lst (V.map .tup)) (.inl rfl);have ni:=λr (hr:r∈T)=>CA hV (hT r hr);have sp:=s.prog ri p;have vl:=s.ln;rw[MR]at vl;generalize eL (ak m V)=Z at b ni;have lc3:iW [none,some 0,some 3] (bL (ah 2)) (gN 0) (fB (f2 iE (bw (ah 0) (aY) (bV (ah 1))) (ah 2))) (ah 0) [‹.int m›,‹.lst (V.map .tup)›,‹Y›,‹Z›]=.ok (.lst (F.map .tup)):=by
  refine eY (ds:=T.map .tup) (by rcases hY with rfl|rfl<;>simp! only[]) (by rw[MS];omega) ?_;rw[hF];refine nR (ρ:=[none,‹.int m›,‹Z›]) (g:=gN 0) (C:=fB (f2 iE (bw (ah 0) (aY) (bV (ah 1))) (ah 2))) (Fe:=ah 0) D.tup (λr=>!decide (r.take m∈V.map λr=>r.take m)) D.tup _ λr hr=>⟨[‹.tup r›,‹.int m›,‹Z›],rfl,?_,λ_=>rfl⟩
  have:=ni r hr
  simp! only[fG,this]
 have ad:=vE (V.map .tup) (F.map .tup) (by rw[MS,MS];omega);rw[<-Nz]at ad;rw[oK];unfold gF;simp! only[b,lc3,G7,ad,sp]
structure Tb(τ:List Bool)(m:Nat)(V:List (List D)):Prop where
 s:So τ m V
 ri:vC m V
theorem Tb.of{V:List (List D)}(t0:τ≠[])(hm:m=τ.length)(sh:∀r∈V,Sh τ (r.take m))(ri:vC m V)(ln:V.length<64):Tb τ m V:=⟨⟨t0,hm,sh,uB sh ri,ln⟩,ri⟩
theorem Tb.map{V:List (List D)}(h:Tb τ m V)(g:List D->List D)(hg:∀r∈V,(g r).take m=r.take m):Tb τ m (V.map g):=
 Tb.of h.s.t0 h.s.hm (λr hr=>by
  obtain⟨a,ha,rfl⟩:=List.mem_map.mp hr;rw[hg a ha];exact h.s.sh a ha) (List.pairwise_map.mpr (List.Pairwise.imp_of_mem (λ{a b} ha hb e=>by rw[hg a ha,hg b hb];exact e) h.ri)) (by rw[MS];exact h.s.ln)
theorem Tb.nil{V:List (List D)}(h:Tb τ m V):Tb τ m []:=Tb.of h.s.t0 h.s.hm (λ_ h=>nomatch h) .nil (by decide)
noncomputable def jr(m:Nat)(B:List (List D))(a:List D):List (List D):=(B.filter λc=>decide (c.take m=a.take m)).map λc=>a++c.drop m
noncomputable def jn(m:Nat)(A B:List (List D)):List (List D):=A.flatMap (jr m B)
theorem B9{B:List (List D)}(h:So τ m B){a:List D}{c:List D}(hc:c∈B)(e:c.take m=a.take m):jr m B a=[a++c.drop m]:=by
 unfold jr;rw[<-e,Ge h.pw hc];rfl
theorem Ff{B:List (List D)}{a:List D}(e:a.take m∉B.map λr=>r.take m):jr m B a=[]:=by
 unfold jr;rw[List.filter_eq_nil_iff.mpr λc hc z=>e (List.mem_map.mpr ⟨c,hc,of_decide_eq_true z⟩)];rfl
theorem xt(f:List D->List (List D))(p:List D->Bool)(v:List D->D):∀A:List (List D),(∀a∈A,(p a=false/\f a=[])\/∃x,p a=true/\v a=.tup x/\f a=[x])->(A.filter p).map v=(A.flatMap f).map .tup
 |[],_=>rfl
 |a::A,h=>by
  have ih:=xt f p v A λx hx=>h x (Mw _ hx);rw[OL,Nz,<-ih];rcases h a Mv with⟨e1,e2⟩|⟨x,e1,e2,e3⟩
  ·rw[N7 (by rw[e1];simp),e2];rfl
  ·rw[N6 e1,M0,e2,e3];rfl
theorem yp{A B:List (List D)}(hA:∀a∈A,Sh τ (a.take m))(al:A.length<64)(wa:∀a∈A,a.length<=100)(hB:So τ m B)(wb:∀c∈B,c.length<=100)(o q2:D){k:KL}{r:List (Str×D)}(hk:k.length=m):
  bi dH 3 5 [o,.tup [fr k r,q2],.tup [.tup (A.map .tup),.tup (B.map .tup)]]=.ok (.tup ((jn m A B).map .tup)):=by
 have b:=Bu hB (.tup (B.map .tup)) (.inr rfl);have ii:=λa (ha:a∈A)=>IJ hB (hA a ha);have dx:=λc (hc:c∈B)=>Gu hB hc;generalize eL (ak m B)=Z at b ii dx;have lc:∀a0 a1:Option S,iW [none,some 4,some 3] (bL (f2 aE (ah 2) (fC (.int 0)))) (gN 0) (fB (f2 xU (bw (ah 0) (aY) (bV (ah 2))) (ah 1))) (f2 bK (ah 0) (bw (f2 q5 (ah 1) (bw (ah 0) (aY) (bV (ah 2)))) (bV (ah 2)) (aY))) [a0,a1,‹.tup [.tup (A.map .tup),.tup (B.map .tup)]›,‹.int m›,‹Z›]=.ok (.lst ((jn m A B).map .tup)):=λ_ _=>by
  refine eY (ds:=A.map .tup) (by simp! only[]) (by rw[MS];omega) ?_;have fo:=xt (jr m B) (λa=>decide (a.take m∈B.map λr=>r.take m)) (λa=>.tup ((jr m B a).headD [])) A λa ha=>by
   by_cases e:a.take m∈B.map λr=>r.take m
   ·obtain⟨c,hc,ec⟩:=List.mem_map.mp e;have ej:=B9 hB hc (show c.take m=a.take m from ec);exact .inr ⟨a++c.drop m,decide_eq_true e,by rw[ej];rfl,ej⟩
   ·exact .inl ⟨decide_eq_false e,Ff e⟩
  unfold jn;rw[<-fo];refine nR (ρ:=[none,‹Z›,‹.int m›]) (g:=gN 0) (C:=fB (f2 xU (bw (ah 0) (aY) (bV (ah 2))) (ah 1))) (Fe:=f2 bK (ah 0) (bw (f2 q5 (ah 1) (bw (ah 0) (aY) (bV (ah 2)))) (bV (ah 2)) (aY))) D.tup (λa=>decide (a.take m∈B.map λr=>r.take m)) (λa=>.tup ((jr m B a).headD [])) A λa ha=>⟨[‹.tup a›,‹Z›,‹.int m›],rfl,?_,λz=>?_⟩
  ·have:=ii a ha
   simp! only[fG,this]
  ·obtain⟨c,hc,ec⟩:=List.mem_map.mp (of_decide_eq_true z);have ec:c.take m=a.take m:=ec;have dc:=dx c hc;rw[ec]at dc;have ad:=fQ a (c.drop m) (by rw[MU];have:=wa a ha;have:=wb c hc;omega);rw[B9 hB hc ec];simp! only[fG,dc,qY,ad];rfl
 rw[oK];unfold dH;generalize (jn m A B).map D.tup=W at lc ⊢;simp! only[t0,t1,MS,hk,b,lc]
end
theorem CM{i:Nat}{K:Ks}{ρ:aw}(h:Hk ρ=true):pL i K ρ=K.nx (ρ.set i (some (.nest (.lst [.lst [],.lst []])))):=by
 unfold pL;rw[if_pos h]
theorem yN{i c:Nat}{f:FX}{K:Ks}{ρ:aw}{xs ys:List D}{v:D}(h:ρ[i]?=some (some (.nest (.lst xs))))(hc:xs[c]?=some (.lst ys))(e:f ρ=.ok v)(l:ys.length<1000):pN i c f K ρ=K.nx (ρ.set i (some (.nest (.lst (xs.set c (.lst (ys++[v]))))))):=by
 unfold pN;rw[h];show(match xs[c]? with|some (.lst ys)=>_|_=>_)=_;rw[hc];show(Ci (f ρ)).bind _=_;rw[e];show(if small (ys.length+1)then _ else _)=_;rw[if_pos (dJ ‹0›)]
theorem L7(a b c d e:D):kI [a,b,c,d,e]=some (.lst [a,b,c,d,e]):=nr rfl
section
variable{L:List ZP}{r q:List (Str×D)}{n:Nat}
theorem Hx(ok:Ok L)(x:Int):∃(K:KL)(b0 b1:Bool),K.length=L.length/\(∀p∈K,p.2.gd)/\K.map (·.2.b)=so L/\aE (.lst [.tup ((k1 L).map kf),.tup ((k2 L).map kf),.tup ((bk L).map kf),.tup ((bk L).map kf),.tup ((bk L).map kf)]) (.int (x%5))=some (.tup (K.map kf))/\Df (.int (x%5)) (.tup [.int 0,.int 2,.int 4])=some (.bl b0)/\Df (.int (x%5)) (.tup [.int 1,.int 3,.int 4])=some (.bl b1):=by
 have bl:(bk L).length=L.length:=by unfold bk;rw[MS]
 rcases(show x%5=0\/x%5=1\/x%5=2\/x%5=3\/x%5=4 by omega)with z|z|z|z|z<;>rw[z]
 ·exact⟨k1 L,true,false,MS _,HJ ok,Mj ok,rfl,by kernel_rfl,by kernel_rfl⟩
 ·exact⟨k2 L,false,true,MS _,HE ok,Mh ok,rfl,by kernel_rfl,by kernel_rfl⟩
 ·exact⟨bk L,true,false,bl,yR ok,rfl,rfl,by kernel_rfl,by kernel_rfl⟩
 ·exact⟨bk L,false,true,bl,yR ok,rfl,rfl,by kernel_rfl,by kernel_rfl⟩
 ·exact⟨bk L,true,true,bl,yR ok,rfl,rfl,by kernel_rfl,by kernel_rfl⟩
def Rw(L:List ZP)(w:Nat)(a:List D):Prop:=a.length=L.length+w/\Sh (so L) (a.take L.length)/\∀v∈a,AL 4 v
structure Tw(L:List ZP)(w:Nat)(A:List (List D)):Prop where
 tb:Tb (so L) L.length A
 rw:∀a∈A,Rw L w a
theorem Fi(l1:1<=L.length):so L≠[]:=λz=>by
 have:=congrArg List.length z
 rw[vq,M7]at this;omega
theorem o8(l1:1<=L.length){w:Nat}(rows:List (List D))(h:∀a∈rows,Rw L w a)(hn:rows.length<64):∃A:List (List D),Tw L w A/\A.length<=rows.length/\bi aJ 2 4 [.int L.length,.lst (rows.map .tup)]=.ok (.tup (A.map .tup)):=by
 obtain⟨t,et,ri,tm,tl,_⟩:=oQ (σ:=so L) (kl:=L.length) (Fi l1) (vq L).symm rows (λa ha=>(h a ha).2.1) hn;exact⟨t,⟨Tb.of (Fi l1) (vq L).symm (λa ha=>(h a (tm a ha)).2.1) ri ‹0›,λa ha=>h a (tm a ha)⟩,tl,et⟩
theorem zS(ns:List Int)(l1:1<=L.length)(l8:L.length<=8)(r8:r.length<=8)(q8:q.length<=8)(ok:Ok L)(n2:n<=2)(hr:∀f∈r,KG n f.2)(hq:∀f∈q,KG n f.2)(M:Int)(M5:5<=M)(M50:M<=50):∃A B:List (List D),Tw L r.length A/\Tw L q.length B/\A.length<=M/\B.length<=M/\bi cG 5 12 [fr (k1 L) r,fr (k2 L) q,.lst (ns.map .int),.int 2,.int M]=.ok (.tup [.tup (A.map .tup),.tup (B.map .tup)]):=by
 have kb:=vS ok l8 [] (.tup (r.map fld)) (.tup (q.map fld));rw[MJ]at kb;have kb:bi bJ 2 5 [fr (k1 L) r,fr (k2 L) q]=.ok (.tup ((bk L).map kf)):=kb;obtain⟨N,hN,rn⟩:∃N:Nat,(N:Int)<=M/\∀e1 e2:Int,pQ [.int (ns.length:Int),.int (2+5)]=some (.int e1)->sY [.int e1,.int (2+M)]=some (.int e2)->qv [.int 2,.int e2]=some (eR 2 N):=by
  refine⟨((if(2+M:Int)<(if(2+5:Int)>(ns.length:Int)then 2+5 else(ns.length:Int))then 2+M else(if(2+5:Int)>(ns.length:Int)then 2+5 else(ns.length:Int)))-2).toNat,?_,λe1 e2 h1 h2=>?_⟩
  ·split<;>split<;>omega
  ·rw[jZ]at h1;cases h1;rw[lw]at h2;cases h2;generalize he:(if(2+M:Int)<(if(2+5:Int)>(ns.length:Int)then 2+5 else(ns.length:Int))then 2+M else(if(2+5:Int)>(ns.length:Int)then 2+5 else(ns.length:Int)))=e;have e2:2<=e/\e<=60:=(by rw[<-he];split<;>split<;>omega);show(if okR 2&&okR e then some (eR 2 ((e-2).toNat))else none)=_;have o1:okR 2=true:=decide_eq_true ⟨by decide,by decide⟩;have o2:okR e=true:=decide_eq_true ⟨by omega,by omega⟩;rw[o1,o2];rfl
 have mx:=jZ (ns.length:Int) (2+5);have rn:=rn _ _ mx (lw _ _);have g5:=gm 5;have g7:=gm 7;have g2:=gm 2;have d5:=gd 5;have i0:aE (fr (k1 L) r) (.int 0)=some (.tup ((k1 L).map kf)):=rfl;have i1:aE (fr (k1 L) r) (.int 1)=some (.tup (r.map fld)):=rfl;have j0:aE (fr (k2 L) q) (.int 0)=some (.tup ((k2 L).map kf)):=rfl;have j1:aE (fr (k2 L) q) (.int 1)=some (.tup (q.map fld)):=rfl;have kL:(k1 L).length=L.length:=MS _;obtain⟨T,hT⟩:∃T:cx,T=(we 6 (bR (bT (af (fR (bi aJ 2 4) (af (fL ig (af (f2 aE (ah 0) (fC (.int 0))) (av))) (af (f2 aE (ah 6) (fC (.int 0))) (av)))) (af (fR (bi aJ 2 4) (af (fL ig (af (f2 aE (ah 0) (fC (.int 0))) (av))) (af (f2 aE (ah 6) (fC (.int 1))) (av)))) (av)))))):=⟨_,rfl⟩
 rw[Hh];unfold cG;rw[<-hT];generalize hF1:fr (k1 L) r=F1 at *;generalize hF2:fr (k2 L) q=F2 at *;have nw:=λK:Ks=>CM (i:=6) (K:=K) (ρ:=[‹F1›,‹F2›,‹.lst (ns.map .int)›,‹.int 2›,‹.int M›,‹.tup ((bk L).map kf)›,none,none,none,none,none,none]) rfl;simp! only[kb,nw,MS,rn];refine eP (Q:=λz=>∃A B:List (List D),Tw L r.length A/\Tw L q.length B/\A.length<=M/\B.length<=M/\z=.ok (.tup [.tup (A.map .tup),.tup (B.map .tup)]))
  (λi ρ=>∃R0 R1:List (List D),R0.length<=i/\R1.length<=i/\(∀a∈R0,Rw L r.length a)/\(∀a∈R1,Rw L q.length a)/\ρ=[‹F1›,‹F2›,‹.lst (ns.map .int)›,‹.int 2›,‹.int M›,‹.tup ((bk L).map kf)›,some (.nest (.lst [.lst (R0.map .tup),.lst (R1.map .tup)])),none,none,none,none,none]) ?_ ⟨[],[],MC _,MC _,(λ_ h=>nomatch h),(λ_ h=>nomatch h),rfl⟩ ?_
 ·rintro i d ρ kk hd ⟨R0,R1,l0,l1',h0,h1,rfl⟩;have hi:=cT hd;rw[cu]at hi;have hdi:d=.int ((2+i:Nat):Int):=by
   rw[iL,MP,NE hi]at hd;cases hd;simp
  subst hdi;obtain⟨x,x0,x1,ex⟩:=vB ns (2+i) ‹0›;obtain⟨y,y0,y1,ey⟩:=eN x x0 ‹0›;obtain⟨K,b0,b1,kl,kg,ks,ek,eb0,eb1⟩:=Hx ok x;obtain⟨h,hh0,hh1,eh⟩:∃h:Int,0<=h/\h<2147483700/\aE (.lst [.int y,.int (y%7)]) (.int (x/5%2))=some (.int h):=by
   rcases(show x/5%2=0\/x/5%2=1 by omega)with z|z<;>rw[z]
   ·exact⟨y,by omega,by omega,rfl⟩
   ·exact⟨y%7,by omega,by omega,rfl⟩
  obtain⟨vs,ev,v1,v2,v3⟩:=jL n n2 K [] ‹0› (by decide) kg (λ_ h=>nomatch h) (K.map kf) (by rw[MJ,yi]) h hh0 hh1;have v1:vs.length=K.length+0:=v1;rw[Oh ‹0›]at v2;have vsh:=v2.sh;rw[ks]at vsh;obtain⟨us,eu,u1,_,u3⟩:=jL n n2 [] r (by decide) r8 (λ_ h=>nomatch h) hr (r.map fld) rfl (y+1) ‹0› ‹0›;have u1:us.length=0+r.length:=u1;obtain⟨ws,ew,w1,_,w3⟩:=jL n n2 [] q (by decide) q8 (λ_ h=>nomatch h) hq (q.map fld) rfl (y+2) ‹0› ‹0›;have w1:ws.length=0+q.length:=w1;have a1:=fQ vs us ‹0›;have a2:=fQ vs ws ‹0›;have rA:Rw L r.length (vs++us):=⟨by rw[MR];omega,by rw[OM ‹0›];exact vsh,λv hv=>(List.mem_append.mp hv).elim (v3 v) (u3 v)⟩
  have rB:Rw L q.length (vs++ws):=⟨by rw[MR];omega,by rw[OM ‹0›];exact vsh,λv hv=>(List.mem_append.mp hv).elim (v3 v) (w3 v)⟩
  have sn:∀{w:Nat}{R:List (List D)}{a:List D},(∀a∈R,Rw L w a)->Rw L w a->∀c∈R++[a],Rw L w c:=λh ha c hc=>by
   rcases List.mem_append.mp hc with z|z
   ·exact h c z
   ·rw[List.mem_singleton.mp z];exact ha
  have m0:(R0++[vs++us]).map D.tup=R0.map D.tup++[.tup (vs++us)]:=by rw[Nz];rfl
  have m1:(R1++[vs++ws]).map D.tup=R1.map D.tup++[.tup (vs++ws)]:=by rw[Nz];rfl
  have p0:=λ(K:Ks)(Y1:List D)=>yN (v:=.tup (vs++us)) (i:=6) (c:=0) (f:=f2 bK (ah 11) (fR (bi bG 2 2) (af (f2 aE (ah 0) (fC (.int 1))) (af (f2 bK (ah 10) (fC (.int 1))) (av))))) (K:=K) (ρ:=[‹F1›,‹F2›,‹.lst (ns.map .int)›,‹.int 2›,‹.int M›,‹.tup ((bk L).map kf)›,some (.nest (.lst [.lst (R0.map .tup),.lst Y1])),‹.int ((2+i:Nat):Int)›,‹.int x›,‹.int (x%5)›,‹.int y›,‹.tup vs›]) rfl rfl (by simp! only[i1,eu,a1]) (by rw[MS];omega);have p1:=λ(K:Ks)(Y0:List D)=>yN (v:=.tup (vs++ws)) (i:=6) (c:=1) (f:=f2 bK (ah 11) (fR (bi bG 2 2) (af (f2 aE (ah 1) (fC (.int 1))) (af (f2 bK (ah 10) (fC (.int 2))) (av))))) (K:=K) (ρ:=[‹F1›,‹F2›,‹.lst (ns.map .int)›,‹.int 2›,‹.int M›,‹.tup ((bk L).map kf)›,some (.nest (.lst [.lst Y0,.lst (R1.map .tup)])),‹.int ((2+i:Nat):Int)›,‹.int x›,‹.int (x%5)›,‹.int y›,‹.tup vs›]) rfl rfl (by simp! only[j1,ew,a2]) (by rw[MS];omega);rw[<-m0]at p0;rw[<-m1]at p1;refine⟨_,[‹F1›,‹F2›,‹.lst (ns.map .int)›,‹.int 2›,‹.int M›,‹.tup ((bk L).map kf)›,some (.nest (.lst [.lst ((if b0 then R0++[vs++us]else R0).map .tup),.lst ((if b1 then R1++[vs++ws]else R1).map .tup)])),none,none,none,none,none],rfl,⟨_,_,?_,?_,?_,?_,rfl⟩,?_⟩
  ·cases b0<;>simp<;>omega
  ·cases b1<;>simp<;>omega
  ·cases b0
   ·exact h0
   ·exact sn h0 rA
  ·cases b1
   ·exact h1
   ·exact sn h1 rB
  ·cases b0<;>cases b1<;>simp! only[ex,g5,ey,i0,j0,L7,ek,g7,l2,d5,g2,eh,ev,Hl,eb0,eb1,p0,p1]
 ·rintro ρ' ⟨R0,R1,l0,l1',h0,h1,rfl⟩;rw[cu]at l0 l1';obtain⟨A,tA,la,ea⟩:=o8 l1 R0 h0 ‹0›;obtain⟨B,tB,lb,eb⟩:=o8 l1 R1 h1 ‹0›;refine⟨A,B,tA,tB,by omega,by omega,?_⟩;rw[hT];have fz:∀(G:cx)(K:Ks),we 6 G K [‹F1›,‹F2›,‹.lst (ns.map .int)›,‹.int 2›,‹.int M›,‹.tup ((bk L).map kf)›,some (.nest (.lst [.lst (R0.map .tup),.lst (R1.map .tup)])),none,none,none,none,none]=G K [‹F1›,‹F2›,‹.lst (ns.map .int)›,‹.int 2›,‹.int M›,‹.tup ((bk L).map kf)›,‹.lst [.lst (R0.map .tup),.lst (R1.map .tup)]›,none,none,none,none,none]:=λ_ _=>rfl;simp! only[fz,i0,MS,ea,eb,qu]
end
section
open Classical
variable{τ:List Bool}{m:Nat}
abbrev ks(m:Nat)(T:List (List D)):List (List D):=T.map λr=>r.take m
noncomputable abbrev F1(m:Nat)(A B V:List (List D)):List (List D):=A.filter λa=>!decide (a.take m∈ks m V)&&!decide (a.take m∈ks m B)
noncomputable abbrev F2(m:Nat)(B V:List (List D)):List (List D):=B.filter λa=>!decide (a.take m∈ks m V)
abbrev va(e:Nat)(V:List (List D)):List (List D):=V.map (·.take e)
abbrev vb(m e:Nat)(V:List (List D)):List (List D):=V.map λv=>v.take m++v.drop e
theorem oO{v:List D}{e:Nat}(h:m<=v.length):(v.take m++v.drop e).take m=v.take m:=by
 rw[OO (by rw[ML];omega),OQ,Nr]
theorem Fs{e:Nat}(me:m<=e)(V:List (List D)):ks m (va e V)=ks m V:=by
 show List.map _ (List.map _ V)=_;rw[Oc];exact Ny λv _=>by rw[Function.comp_apply,OQ,Ol me]
theorem EI{e:Nat}{V:List (List D)}(h:∀v∈V,m<=v.length):ks m (vb m e V)=ks m V:=by
 show List.map _ (List.map _ V)=_;rw[Oc];exact Ny λv hv=>oO (h v hv)
theorem C9(A B V:List (List D)):(F1 m A B V).length<=A.length:=OH _ _
theorem B6(B V:List (List D)):(F2 m B V).length<=B.length:=OH _ _
theorem o9{A B V:List (List D)}{a:List D}(h:a∈F1 m A B V):a∈A/\a.take m∉ks m V/\a.take m∉ks m B:=by
 obtain⟨h1,h2⟩:=List.mem_filter.mp h;rw[MV,OS,OS]at h2;exact⟨h1,of_decide_eq_false h2.1,of_decide_eq_false h2.2⟩
theorem oJ{B V:List (List D)}{a:List D}(h:a∈F2 m B V):a∈B/\a.take m∉ks m V:=by
 obtain⟨h1,h2⟩:=List.mem_filter.mp h;rw[OS]at h2;exact⟨h1,of_decide_eq_false h2⟩
structure Pt(τ:List Bool)(m e:Nat)(A B V R1 R2:List (List D)):Prop where
 s1:So τ m (va e V++F1 m A B V)
 s2:So τ m (vb m e V++F2 m B V)
 r1:vC m R1
 r2:vC m R2
 p1:R1.Perm (va e V++F1 m A B V)
 p2:R2.Perm (vb m e V++F2 m B V)
theorem Fb{A B V:List (List D)}{e:Nat}(me:m<=e)(tA:Tb τ m A)(tB:Tb τ m B)(tV:Tb τ m V)(vl:∀v∈V,m<=v.length):(va e V++F1 m A B V).Pairwise (λa b=>a.take m≠b.take m)/\(vb m e V++F2 m B V).Pairwise (λa b=>a.take m≠b.take m):=by
 refine⟨List.pairwise_append.mpr ⟨(tV.map (·.take e) λv _=>by rw[OQ,Ol me]).s.pw,(tA.s.sub OT).pw,λa ha y hy z=>?_⟩,List.pairwise_append.mpr ⟨(tV.map (λv=>v.take m++v.drop e) λv hv=>oO (vl v hv)).s.pw,(tB.s.sub OT).pw,λa ha y hy z=>?_⟩⟩
 ·have:y.take m∈ks m (va e V):=List.mem_map.mpr ⟨a,ha,z⟩
  rw[Fs me]at this;exact(o9 hy).2.1 this
 ·have:y.take m∈ks m (vb m e V):=List.mem_map.mpr ⟨a,ha,z⟩
  rw[EI vl]at this;exact(oJ hy).2 this
theorem E5{A B V:List (List D)}{e:Nat}(me:m<=e)(tA:Tb τ m A)(tB:Tb τ m B)(tV:Tb τ m V)(vl:∀v∈V,m<=v.length)(l1:(va e V++F1 m A B V).length<64)(l2:(vb m e V++F2 m B V).length<64):So τ m (va e V++F1 m A B V)/\So τ m (vb m e V++F2 m B V):=by
 obtain⟨p1,p2⟩:=Fb (e:=e) me tA tB tV vl;refine⟨⟨tA.s.t0,tA.s.hm,λa ha=>?_,p1,l1⟩,⟨tA.s.t0,tA.s.hm,λa ha=>?_,p2,l2⟩⟩
 ·rcases List.mem_append.mp ha with z|z
  ·obtain⟨v,hv,rfl⟩:=List.mem_map.mp z;rw[OQ,Ol me];exact tV.s.sh v hv
  ·exact tA.s.sh a (o9 z).1
 ·rcases List.mem_append.mp ha with z|z
  ·obtain⟨v,hv,rfl⟩:=List.mem_map.mp z;rw[oO (vl v hv)];exact tV.s.sh v hv
  ·exact tB.s.sh a (oJ z).1
theorem EH{A B V:List (List D)}{e:Nat}(me:m<=e)(tA:Tb τ m A)(tB:Tb τ m B)(tV:Tb τ m V)(vl:∀v∈V,m<=v.length)(l1:V.length+A.length<64)(l2:V.length+B.length<64):∃R1 R2,Pt τ m e A B V R1 R2:=by
 obtain⟨s1,s2⟩:=E5 (e:=e) me tA tB tV vl (by rw[MR,MS];have:=C9 (m:=m) A B V;omega) (by rw[MR,MS];have:=B6 (m:=m) B V;omega);obtain⟨R1,r1,p1⟩:=s1.srt;obtain⟨R2,r2,p2⟩:=s2.srt;exact⟨R1,R2,s1,s2,r1,r2,p1,p2⟩
theorem xY{A B V R1 R2:List (List D)}{e:Nat}(P:Pt τ m e A B V R1 R2)(me:m<=e)(tA:Tb τ m A)(tB:Tb τ m B)(vl:∀v∈V,m<=v.length/\v.length<=100)(o q2:D){k:KL}{r:List (Str×D)}(hk:k.length=m)(he:m+r.length=e):
  bi dq 4 10 [o,.tup [fr k r,q2],.tup [.tup (A.map .tup),.tup (B.map .tup)],.tup (V.map .tup)]=.ok (.tup [.tup (R1.map .tup),.tup (R2.map .tup)]):=by
 have b:=Bu tB.s (.tup (B.map .tup)) (.inr rfl);have ni:=λr (hr:r∈A)=>CA tB.s (tA.s.sh r hr);have ln:=tA.s.ln;have vln:=P.s1.ln;rw[MR,MS]at vln;have he':(m:Int)+(r.length:Int)=((e:Nat):Int):=by omega
 have s1:=Fg (V:=va e V) (T:=A.filter λa=>!decide (a.take m∈ks m B)) (F:=F1 m A B V) (R:=R1) (by
  show _=_;rw[show(va e V).map (λr=>r.take m)=ks m V from Fs me V,List.filter_filter]) P.s1 (λa ha=>tA.s.sh a (List.mem_filter.mp ha).1) (NI (OH _ _) ln) P.r1 P.p1 (.lst ((A.filter λa=>!decide (a.take m∈ks m B)).map .tup)) (.inl rfl)
 have s2:=Fg (V:=vb m e V) (T:=B) (F:=F2 m B V) (R:=R2) (by
  show _=_;rw[show(vb m e V).map (λr=>r.take m)=ks m V from EI λv hv=>(vl v hv).1]) P.s2 tB.s.sh tB.s.ln P.r2 P.p2 (.tup (B.map .tup)) (.inr rfl)
 have c8:∀a0 a1 a2 a4 a6 a7 a8 a9:Option S,iW [none,some 5] (bL (ah 3)) (gN 0) (dZ) (bw (ah 0) (aY) (bV (ah 1))) [a0,a1,a2,‹.tup (V.map .tup)›,a4,‹.int e›,a6,a7,a8,a9]=.ok (.lst ((va e V).map .tup)):=λa0 a1 a2 a4 a6 a7 a8 a9=>by
  refine eY (ds:=V.map .tup) (by simp! only[]) (by rw[MS];omega) ?_;rw[Oc];refine nW D.tup _ V λr hr=>⟨[‹.tup r›,‹.int e›],rfl,rfl,?_⟩
  simp! only[fG];rfl
 have c9:∀a0 a1 a2 a6 a7 a8 a9:Option S,iW [none,some 4,some 5] (bL (ah 3)) (gN 0) (dZ) (f2 bK (bw (ah 0) (aY) (bV (ah 1))) (bw (ah 0) (bV (ah 2)) (aY))) [a0,a1,a2,‹.tup (V.map .tup)›,‹.int m›,‹.int e›,a6,a7,a8,a9]=.ok (.lst ((vb m e V).map .tup)):=λa0 a1 a2 a6 a7 a8 a9=>by
  refine eY (ds:=V.map .tup) (by simp! only[]) (by rw[MS];omega) ?_;rw[Oc];refine nW D.tup _ V λr hr=>⟨[‹.tup r›,‹.int m›,‹.int e›],rfl,rfl,?_⟩
  have ad:=fQ (r.take m) (r.drop e) (by rw[ML,MU];have:=vl r hr;omega);simp! only[fG,qY,ad];rfl
 generalize eL (ak m B)=Z at b ni;have c7:∀a0 a1 a3 a5 a7 a8 a9:Option S,iW [none,some 4,some 6] (bL (f2 aE (ah 2) (fC (.int 0)))) (gN 0) (fB (f2 iE (bw (ah 0) (aY) (bV (ah 1))) (ah 2))) (ah 0) [a0,a1,‹.tup [.tup (A.map .tup),.tup (B.map .tup)]›,a3,‹.int m›,a5,‹Z›,a7,a8,a9]=.ok (.lst ((A.filter λa=>!decide (a.take m∈ks m B)).map .tup)):=λ_ _ _ _ _ _ _=>by
  refine eY (ds:=A.map .tup) (by simp! only[]) (by rw[MS];omega) ?_;refine nR (ρ:=[none,‹.int m›,‹Z›]) (g:=gN 0) (C:=fB (f2 iE (bw (ah 0) (aY) (bV (ah 1))) (ah 2))) (Fe:=ah 0) D.tup (λa=>!decide (a.take m∈ks m B)) D.tup A λr hr=>⟨[‹.tup r›,‹.int m›,‹Z›],rfl,?_,λ_=>rfl⟩
  have:=ni r hr
  simp! only[fG,this]
 rw[vd];unfold dq;generalize (A.filter λa=>!decide (a.take m∈ks m B)).map D.tup=WH at *;generalize (va e V).map D.tup=W1 at *;generalize (vb m e V).map D.tup=W2 at *;simp! only[t0,t1,MS,hk,he',b,c7,c8,s1,c9,s2,qu]
theorem ww{T:List (List D)}(hT:∀r∈T,Sh τ (r.take m)){f:List D}(hf:Sh τ f):fM (.tup f) (.lst ((ks m T).map .tup))=some (.bl (!decide (f∈ks m T))):=by
 have e:fM (.tup f) (.lst ((ks m T).map .tup))=if(pl (.tup f)&&mB ((ks m T).map .tup))&&eK 8 (.tup f)then some (.bl (!inD (.tup f) ((ks m T).map .tup)))else none:=rfl
 have d:eK 8 (.tup f)=true:=by show f.all (eK 7)=true;exact yk 6 hf
 rw[e,dG,vX hf,d,xE λx hx=>by
  obtain⟨g,hg,rfl⟩:=List.mem_map.mp hx;obtain⟨r,hr,rfl⟩:=List.mem_map.mp hg;rw[dG];exact vX (hT r hr)]
 show some (D.bl (!inD (.tup f) ((ks m T).map .tup)))=_;congr 3;unfold inD;rw[Od,Bool.eq_iff_iff,OB,decide_eq_true_iff];constructor
 ·rintro⟨g,hg,eq⟩;obtain⟨r,hr,rfl⟩:=List.mem_map.mp hg;have eq:pyEq (.tup (r.take m)) (.tup f)=true:=eq;rw[pyEq]at eq;rw[<-(uM (hT r hr) hf).mp eq];exact hg
 ·intro h;refine⟨f,h,?_⟩;show pyEq (.tup f) (.tup f)=true;rw[pyEq];exact(uM hf hf).mpr rfl
theorem yU{T:List (List D)}(tl:T.length<=1000){G:aw->R (List D)}{ρ:aw}{i:Nat}(hG:G ρ=.ok (T.map .tup))(hi:inB [none,some i] ρ=[none,‹.int m›]):iW [none,some i] G (gN 0) (dZ) (bw (ah 0) (aY) (bV (ah 1))) ρ=.ok (.lst ((ks m T).map .tup)):=by
 refine eY hG (by rw[MS];omega) ?_;rw[hi,Oc];refine nW D.tup _ T λr hr=>⟨[‹.tup r›,‹.int m›],rfl,rfl,?_⟩
 simp! only[fG];rfl
theorem CJ{A B V R1 R2:List (List D)}{e:Nat}(P:Pt τ m e A B V R1 R2)(tA:Tb τ m A)(tB:Tb τ m B)(tV:Tb τ m V)(vl:∀v∈V,m<=v.length/\v.length<=100)(q2:D){k:KL}{r:List (Str×D)}(hk:k.length=m)(he:m+r.length=e):
  bi fw 4 11 [fr k r,q2,.tup [.tup (A.map .tup),.tup (B.map .tup)],.tup (V.map .tup)]=.ok (.tup [.tup (R1.map .tup),.tup (R2.map .tup)]):=by
 have la:=tA.s.ln;have lb:=tB.s.ln;have lv:=tV.s.ln;have he':(m:Int)+(r.length:Int)=((e:Nat):Int):=by omega
 have n1:=λf (hf:Sh τ f)=>ww tV.s.sh hf;have n2:=λf (hf:Sh τ f)=>ww tB.s.sh hf;have w1:=P.s1.law P.r1 P.p1;have w2:=P.s2.law P.r2 P.p2;have c6:∀a0 a1 a2 a5 a6 a7 a8 a9 a10:Option S,iW [none,some 4] (bL (ah 3)) (gN 0) (dZ) (bw (ah 0) (aY) (bV (ah 1))) [a0,a1,a2,‹.tup (V.map .tup)›,‹.int m›,a5,a6,a7,a8,a9,a10]=.ok (.lst ((ks m V).map .tup)):=λ_ _ _ _ _ _ _ _ _=>yU ‹0› (by simp! only[]) rfl;have c7:∀a0 a1 a3 a5 a6 a7 a8 a9 a10:Option S,iW [none,some 4] (bL (f2 aE (ah 2) (fC (.int 1)))) (gN 0) (dZ) (bw (ah 0) (aY) (bV (ah 1))) [a0,a1,‹.tup [.tup (A.map .tup),.tup (B.map .tup)]›,a3,‹.int m›,a5,a6,a7,a8,a9,a10]=.ok (.lst ((ks m B).map .tup)):=λ_ _ _ _ _ _ _ _ _=>yU ‹0› (by simp! only[]) rfl;have c8:∀a0 a1 a2 a4 a6 a7 a8 a9 a10:Option S,iW [none,some 5] (bL (ah 3)) (gN 0) (dZ) (bw (ah 0) (aY) (bV (ah 1))) [a0,a1,a2,‹.tup (V.map .tup)›,a4,‹.int e›,a6,a7,a8,a9,a10]=.ok (.lst ((va e V).map .tup)):=λ_ _ _ _ _ _ _ _ _=>yU (m:=e) ‹0› (by simp! only[]) rfl;have c9:∀a0 a1 a2 a6 a7 a8 a9 a10:Option S,iW [none,some 4,some 5] (bL (ah 3)) (gN 0) (dZ) (f2 bK (bw (ah 0) (aY) (bV (ah 1))) (bw (ah 0) (bV (ah 2)) (aY))) [a0,a1,a2,‹.tup (V.map .tup)›,‹.int m›,‹.int e›,a6,a7,a8,a9,a10]=.ok (.lst ((vb m e V).map .tup)):=λa0 a1 a2 a6 a7 a8 a9 a10=>by
  refine eY (ds:=V.map .tup) (by simp! only[]) (by rw[MS];omega) ?_;rw[Oc];refine nW D.tup _ V λr hr=>⟨[‹.tup r›,‹.int m›,‹.int e›],rfl,rfl,?_⟩
  have ad:=fQ (r.take m) (r.drop e) (by rw[ML,MU];have:=vl r hr;omega);simp! only[fG,qY,ad];rfl
 obtain⟨T,hT⟩:∃T:cx,T=(aH (bB 9 (f2 bK (ah 9) (iW [none,some 4,some 6] (bL (f2 aE (ah 2) (fC (.int 1)))) (gN 0) (fB (f2 fM (bw (ah 0) (aY) (bV (ah 1))) (ah 2))) (ah 0)))) (fZ 8 (bR (bT (af (fR (bi aJ 2 4) (af (ah 4) (af (ah 8) (av)))) (af (fR (bi aJ 2 4) (af (ah 4) (af (ah 9) (av)))) (av))))))):=⟨_,rfl⟩
 rw[vd];unfold fw;rw[<-hT];have i0:aE (fr k r) (.int 0)=some (.tup (k.map kf)):=rfl;have i1:aE (fr k r) (.int 1)=some (.tup (r.map fld)):=rfl;generalize fr k r=Fk at *;generalize hKV:(ks m V).map D.tup=KV at *;generalize hKB:(ks m B).map D.tup=KB at *;generalize hW2:(vb m e V).map D.tup=W2 at *;have ini:(va e V).map D.tup=(va e V++F1 m (A.take 0) B V).map .tup:=by rw[Nj];simp
 rw[ini]at c8;simp! only[i0,i1,MS,hk,he',c6,t1,c7,c8,c9,t0];refine eP (Q:=λz=>z=.ok (.tup [.tup (R1.map .tup),.tup (R2.map .tup)])) (λi ρ=>ρ=[none,none,‹.tup [.tup (A.map .tup),.tup (B.map .tup)]›,none,‹.int m›,none,‹.lst KV›,‹.lst KB›,some (.own (.lst ((va e V++F1 m (A.take i) B V).map .tup))),‹.lst W2›,none]\/∃d,ρ=[none,none,‹.tup [.tup (A.map .tup),.tup (B.map .tup)]›,none,‹.int m›,none,‹.lst KV›,‹.lst KB›,some (.own (.lst ((va e V++F1 m (A.take i) B V).map .tup))),‹.lst W2›,‹d›]) ?_ (.inl rfl) ?_
 ·rintro i d ρ kk hd hρ;have hi:=cT hd;rw[MS]at hi;rw[MP,Nq hi]at hd;cases hd;have hs:=tA.s.sh A[i] (N8 hi);have x1:=n1 _ hs;have x2:=n2 _ hs;have gt:gN 10 (.tup A[i]) ρ=some [none,none,‹.tup [.tup (A.map .tup),.tup (B.map .tup)]›,none,‹.int m›,none,‹.lst KV›,‹.lst KB›,some (.own (.lst ((va e V++F1 m (A.take i) B V).map .tup))),‹.lst W2›,‹.tup A[i]›]:=by
   rcases hρ with rfl|⟨_,rfl⟩<;>rfl
  have fl:(F1 m (A.take i) B V).length<=63:=by
   have:=C9 (m:=m) (A.take i) B V
   rw[ML]at this;omega
  by_cases z1:A[i].take m∈ks m V
  ·have st:F1 m (A.take (i+1)) B V=F1 m (A.take i) B V:=by
    show List.filter _ _=List.filter _ _;rw[OD hi,OU,N7 (by rw[decide_eq_true z1];simp),List.filter_nil,MJ]
   rw[decide_eq_true z1]at x1;refine⟨_,_,gt,.inr ⟨.tup A[i],rfl⟩,?_⟩;rw[st];generalize (va e V++F1 m (A.take i) B V).map D.tup=Y;simp! only[fG,x1]
  ·rw[decide_eq_false z1]at x1;by_cases z2:A[i].take m∈ks m B
   ·have st:F1 m (A.take (i+1)) B V=F1 m (A.take i) B V:=by
     show List.filter _ _=List.filter _ _;rw[OD hi,OU,N7 (by rw[decide_eq_true z2];simp),List.filter_nil,MJ]
    rw[decide_eq_true z2]at x2;refine⟨_,_,gt,.inr ⟨.tup A[i],rfl⟩,?_⟩;rw[st];generalize (va e V++F1 m (A.take i) B V).map D.tup=Y;simp! only[fG,x1,x2]
   ·rw[decide_eq_false z2]at x2;have st:va e V++F1 m (A.take (i+1)) B V=va e V++F1 m (A.take i) B V++[A[i]]:=by
     rw[NK];congr 1;show List.filter _ _=List.filter _ _++_;rw[OD hi,OU,N6 (by rw[decide_eq_false z1,decide_eq_false z2];rfl)];rfl
    have ap:eQ ((va e V++F1 m (A.take i) B V).map .tup) [.tup A[i]]=some ((va e V++F1 m (A.take (i+1)) B V).map .tup):=by
     rw[jk (by rw[MS,MR,MS];omega),st,Nz (l₂:=[_])];rfl
    refine⟨_,_,gt,.inr ⟨.tup A[i],rfl⟩,?_⟩;have sm:=λK:Ks=>jm 8 eQ (af (ah 10) (av)) K [none,none,‹.tup [.tup (A.map .tup),.tup (B.map .tup)]›,none,‹.int m›,none,‹.lst KV›,‹.lst KB›,some (.own (.lst ((va e V++F1 m (A.take i) B V).map .tup))),‹.lst W2›,‹.tup A[i]›] (xs:=(va e V++F1 m (A.take i) B V).map .tup) rfl;generalize (va e V++F1 m (A.take (i+1)) B V).map D.tup=Y1 at ap ⊢;generalize (va e V++F1 m (A.take i) B V).map D.tup=Y at ap sm ⊢;simp! only[fG,x1,x2,sm,ap]
 ·rintro ρ' hρ;rw[MS,Oh (MC _)]at hρ;have lc:∀a0 a1 a3 a5 a7 a8 a9 a10:Option S,iW [none,some 4,some 6] (bL (f2 aE (ah 2) (fC (.int 1)))) (gN 0) (fB (f2 fM (bw (ah 0) (aY) (bV (ah 1))) (ah 2))) (ah 0) [a0,a1,‹.tup [.tup (A.map .tup),.tup (B.map .tup)]›,a3,‹.int m›,a5,‹.lst KV›,a7,a8,a9,a10]=.ok (.lst ((F2 m B V).map .tup)):=λ_ _ _ _ _ _ _ _=>by
   refine eY (ds:=B.map .tup) (by simp! only[]) (by rw[MS];omega) ?_;refine nR (ρ:=[none,‹.int m›,‹.lst KV›]) (g:=gN 0) (C:=fB (f2 fM (bw (ah 0) (aY) (bV (ah 1))) (ah 2))) (Fe:=ah 0) D.tup (λa=>!decide (a.take m∈ks m V)) D.tup B λr hr=>⟨[‹.tup r›,‹.int m›,‹.lst KV›],rfl,?_,λ_=>rfl⟩
   have:=n1 _ (tB.s.sh r hr)
   simp! only[fG,this]
  have fl2:=B6 (m:=m) B V;have ad:=vE ((vb m e V).map .tup) ((F2 m B V).map .tup) (by
   rw[MS,MS,MS];omega)
  rw[<-Nz,hW2]at ad;rw[hT];generalize (va e V++F1 m A B V).map D.tup=Y1 at *;generalize (vb m e V++F2 m B V).map D.tup=Y2 at *;generalize (F2 m B V).map D.tup=Y3 at *;rcases hρ with rfl|⟨_,rfl⟩<;>simp! only[lc,ad,w1,w2,qu]
end
theorem Dy(w:Str)(ws:List Str):fM (.str w) (.lst (ws.map .str))=some (.bl (!ws.contains w)):=by
 have e:=D7 w ws;have e1:Df (.str w) (.lst (ws.map .str))=if(pl (.str w)&&mB (ws.map .str))&&eK 8 (.str w)then some (.bl (inD (.str w) (ws.map .str)))else none:=rfl
 have e2:fM (.str w) (.lst (ws.map .str))=if(pl (.str w)&&mB (ws.map .str))&&eK 8 (.str w)then some (.bl (!inD (.str w) (ws.map .str)))else none:=rfl
 rw[e1]at e;rw[e2];split at e
 ·rename_i z;rw[if_pos z];injection e with e;injection e with e;rw[e]
 ·cases e
def IH:Kd->D->Bool
 |.num lo hi,.int i=>!(decide (i<lo)||decide (i>hi))
 |.wrd ws,.str w=>ws.contains w
 |_,_=>true
def aF:KL->List D->Bool
 |p::k,v::vs=>IH p.2 v&&aF k vs
 |_,_=>true
def FB:cx:=(aH (bB 4 (f2 aE (ah 2) (fC (.int 1)))) (aH (jt (vw (fB (f2 kJ (f2 aE (ah 4) (fC (.int 0))) (fC (.str "number")))) (BG (fB (f2 qH (ah 3) (f2 aE (ah 4) (fC (.int 1))))) (fB (f2 KZ (ah 3) (f2 aE (ah 4) (fC (.int 2))))))) (bR (fC (.bl false))) (cz)) (aH (jt (vw (fB (f2 kJ (f2 aE (ah 4) (fC (.int 0))) (fC (.str "word")))) (fB (f2 fM (ah 3) (f2 aE (ah 4) (fC (.int 1)))))) (bR (fC (.bl false))) (cz)) (dX [2,3,4] cz))))
theorem wF(K:Ks)(hK:∀ρ,K.nx ρ=.ok (.bl true))(v0 v1:Option S):∀(k:KL)(vs:List D),Sh (k.map (·.2.b)) (vs.take k.length)->jq (gT 2 (nH [2,3])) FB K (km (k.map kf) vs) [v0,v1,none,none,none]=.ok (.bl (aF k vs))
 |[],_,_=>hK _
 |p::k,[],h=>by cases p with|mk _ c=>cases c<;>cases h
 |p::k,v::vs,h=>by
  show((rO (gT 2 (nH [2,3]) (.tup [kf p,v]) [v0,v1,none,none,none])).bind λρ1=>FB ⟨jq (gT 2 (nH [2,3])) FB K (km (k.map kf) vs),K.nx,jq (gT 2 (nH [2,3])) FB K (km (k.map kf) vs),K.ex⟩ ρ1)=_;have e:gT 2 (nH [2,3]) (.tup [kf p,v]) [v0,v1,none,none,none]=some [v0,v1,‹kf p›,‹v›,none]:=rfl;have j1:aE (kf p) (.int 1)=some p.2.d:=rfl;have ih:Sh (k.map (·.2.b)) (vs.take k.length)->_:=wF K hK v0 v1 k vs;rw[e,fP,d9];obtain⟨nm,c⟩:=p;show _=Except.ok (D.bl (IH c v&&aF k vs));cases c with
  |num lo hi=>
   cases h with
   |int i h=>
    have ih:=ih h;show FB _ _=Except.ok (D.bl (!(decide (i<lo)||decide (i>hi))&&aF k vs))
    conv=>lhs;unfold FB
    cases h1:decide (i<lo)with
    |true=>simp! only[j1,Kd.d,rh,h1,M3,Ox,MB]
    |false=>
     cases h2:decide (i>hi)with
     |true=>simp! only[j1,Kd.d,rh,h1,h2,M4,Ox,MB]
     |false=>
      simp! only[j1,Kd.d,rh,DN,h1,h2,Bool.or_self,Oy,Bool.true_and];exact ih
  |wrd ws=>
   cases h with
   |str w h=>
    have ih:=ih h;have ni:fM (.str w) (.tup (ws.map .str))=some (.bl (!ws.contains w)):=Dy w ws;show FB _ _=Except.ok (D.bl (ws.contains w&&aF k vs))
    conv=>lhs;unfold FB
    cases h1:ws.contains w with
    |false=>
     rw[h1]at ni;simp! only[j1,Kd.d,uX,uD,ni,MB]
    |true=>
     rw[h1]at ni;simp! only[j1,Kd.d,uX,uD,ni,Bool.true_and];exact ih
theorem G4{k:KL}{vs:List D}(h:Sh (k.map (·.2.b)) (vs.take k.length)):bi gA 2 5 [.tup (k.map kf),.tup vs]=.ok (.bl (aF k vs)):=by
 rw[gq];unfold gA;simp! only[t6];exact wF _ (λρ=>rfl) _ _ k vs h
theorem GV{w:List D}(h:mB w=true):BC (.lst w) (.lst [])=some (.bl (!decide (w=[]))):=by
 have e:BC (.lst w) (.lst [])=if(pl (.lst w)&&pl (.lst []))&&(eK 8 (.lst w)||eK 8 (.lst []))then some (.bl (!pyEq (.lst w) (.lst [])))else none:=rfl
 have d:eK 8 (.lst [])=true:=rfl;have p:pl (.lst ([]:List D))=true:=rfl;rw[e,eF,h,d,p,Bool.or_true,Nt,Nt,if_pos rfl];cases w with
 |nil=>rw[decide_eq_true rfl,pyEq];rfl
 |cons a w=>rw[decide_eq_false (by simp),pyEq];rfl
section
open Classical
variable{L:List ZP}{r q:List (Str×D)}{n:Nat}
theorem DQ(l1:1<=L.length)(l8:L.length<=8)(s8:r.length+q.length<=8)(ok:Ok L)(n2:n<=2)(hr:∀f∈r,KG n f.2)(hq:∀f∈q,KG n f.2){A B:List (List D)}(tA:Tw L r.length A)(tB:Tw L q.length B)(x:Int)(x0:0<=x)(x1:x<2147483650):
  ∃V:List (List D),Tw L (r.length+q.length) V/\V.length<=8/\bi h7 4 10 [fr (k1 L) r,fr (k2 L) q,.tup [.tup (A.map .tup),.tup (B.map .tup)],.int x]=.ok (.tup (V.map .tup)):=by
 have kb:=vS ok l8 [] (.tup (r.map fld)) (.tup (q.map fld));rw[MJ]at kb;have kb:bi bJ 2 5 [fr (k1 L) r,fr (k2 L) q]=.ok (.tup ((bk L).map kf)):=kb;have la:=tA.tb.s.ln;have lb:=tB.tb.s.ln;have sAB:∀a∈A++B,Sh (so L) (a.take L.length):=λa ha=>(List.mem_append.mp ha).elim (tA.tb.s.sh a) (tB.tb.s.sh a);have ad:=fQ (A.map .tup) (B.map .tup) (by rw[MS,MS];omega);rw[<-Nz]at ad;have abl:(A++B).length<=128:=by rw[MR];omega
 have c6:∀a0 a1 a3 a4 a6 a7 a8 a9:Option S,iW [none,some 5] (bL (f2 bK (f2 aE (ah 2) (fC (.int 0))) (f2 aE (ah 2) (fC (.int 1))))) (gN 0) (dZ) (bw (ah 0) (aY) (bV (ah 1))) [a0,a1,‹.tup [.tup (A.map .tup),.tup (B.map .tup)]›,a3,a4,‹.int L.length›,a6,a7,a8,a9]=.ok (.lst ((ks L.length (A++B)).map .tup)):=λ_ _ _ _ _ _ _ _=>yU ‹0› (by simp! only[t0,t1,ad]) rfl;have nn:=GV (w:=(ks L.length (A++B)).map .tup) (xE λx hx=>by
  obtain⟨g,hg,rfl⟩:=List.mem_map.mp hx;obtain⟨a,ha,rfl⟩:=List.mem_map.mp hg;rw[dG];exact vX (sAB a ha))
 have pick:(ks L.length (A++B)).map D.tup≠[]->∀y:Int,∃f,Sh (so L) f/\aE (.lst ((ks L.length (A++B)).map .tup)) (.int (y%(((ks L.length (A++B)).map D.tup).length:Int)))=some (.tup f):=λne y=>by
  have ul:0<((ks L.length (A++B)).map D.tup).length:=List.length_pos_iff.mpr ne;have q1:=Oz y (show(((ks L.length (A++B)).map D.tup).length:Int)≠0 by omega);have q2:=OA y (show(0:Int)<(((ks L.length (A++B)).map D.tup).length:Int)by omega);have hm:=N8 (l:=(ks L.length (A++B)).map D.tup) (n:=(y%(((ks L.length (A++B)).map D.tup).length:Int)).toNat) ‹0›;obtain⟨g,hg,eg⟩:=List.mem_map.mp hm;obtain⟨a,ha,rfl⟩:=List.mem_map.mp hg;exact⟨_,sAB a ha,by rw[Hc,ot q1 q2,<-eg]⟩
 have adf:=fQ (r.map fld) (q.map fld) (by rw[MS,MS];omega);rw[<-Nz]at adf;obtain⟨N,hN,rn⟩:∃N:Nat,N<=8/\ky [.int (x%9)]=some (eR 0 N):=⟨(x%9).toNat,by omega,by
  have:=iI (x%9).toNat ‹0›
  rwa [OJ ‹0›]at this⟩
 have g9:=gm 9;have g7:=gm 7;have g2:=gm 2;have d2:=gd 2;have d4:=gd 4;have i0:aE (fr (k1 L) r) (.int 0)=some (.tup ((k1 L).map kf)):=rfl;have i1:aE (fr (k1 L) r) (.int 1)=some (.tup (r.map fld)):=rfl;have j1:aE (fr (k2 L) q) (.int 1)=some (.tup (q.map fld)):=rfl;have kL:(k1 L).length=L.length:=MS _;have bl:(bk L).length=L.length:=by unfold bk;rw[MS]
 obtain⟨T,hT⟩:∃T:cx,T=(fZ 7 (bR (fR (bi aJ 2 4) (af (ah 5) (af (ah 7) (av)))))):=⟨_,rfl⟩
 rw[vd];unfold h7;rw[<-hT];generalize fr (k1 L) r=G1 at *;generalize fr (k2 L) q=G2 at *;generalize hKS:(ks L.length (A++B)).map D.tup=KS at *;simp! only[kb,i0,MS,kL,c6,EF,g9,rn];refine eP (Q:=λz=>∃V:List (List D),Tw L (r.length+q.length) V/\V.length<=8/\z=.ok (.tup (V.map .tup)))
  (λi ρ=>∃(y:Int)(R0:List (List D)),0<=y/\y<2147483650/\R0.length<=i/\(∀a∈R0,Rw L (r.length+q.length) a)/\ρ=[‹G1›,‹G2›,none,‹.int y›,‹.tup ((bk L).map kf)›,‹.int L.length›,‹.lst KS›,some (.own (.lst (R0.map .tup))),none,none]) ?_ ⟨x,[],x0,x1,MC _,(λ_ h=>nomatch h),rfl⟩ ?_
 ·rintro i d ρ kk hd ⟨y,R0,y0,y1,l0,h0,rfl⟩;have hi:=cT hd;rw[cu]at hi;have hdi:d=.int (i:Int):=by
   rw[iL,MP,NE hi]at hd;cases hd;simp
  subst hdi;obtain⟨z,z0,z1,ez⟩:=eN (y+(i:Int)) ‹0› ‹0›;obtain⟨w,w0,w1,ew⟩:=eN z z0 ‹0›;obtain⟨h,hh0,hh1,eh⟩:∃h:Int,0<=h/\h<2147483700/\aE (.lst [.int z,.int (z%7)]) (.int (z/2%2))=some (.int h):=by
   rcases(show z/2%2=0\/z/2%2=1 by omega)with u|u<;>rw[u]
   ·exact⟨z,by omega,by omega,rfl⟩
   ·exact⟨z%7,by omega,by omega,rfl⟩
  obtain⟨vs,ev,v1,v2,v3⟩:=jL n n2 (bk L) [] ‹0› (by decide) (yR ok) (λ_ h=>nomatch h) ((bk L).map kf) (by rw[MJ,yi]) h hh0 hh1;have v1:vs.length=(bk L).length+0:=v1;rw[Oh ‹0›]at v2;obtain⟨us,eu,u1,_,u3⟩:=jL n n2 [] (r++q) (by decide) (by rw[MR];exact s8) (λ_ h=>nomatch h) (λf hf=>(List.mem_append.mp hf).elim (hr f) (hq f)) ((r++q).map fld) rfl w w0 ‹0›;have u1:us.length=0+(r++q).length:=u1;rw[MR]at u1;obtain⟨F,hF⟩:∃F:cx,F=(aH (jt (fh (fR (bi gA 2 5) (af (ah 4) (af (ah 9) (av))))) (xA 7 eQ (af (f2 bK (ah 9) (fR (bi bG 2 2) (af (f2 bK (f2 aE (ah 0) (fC (.int 1))) (f2 aE (ah 1) (fC (.int 1)))) (af (fR (bi aG 1 1) (af (ah 3) (av))) (av))))) (av))) (cz)) (dX [8,9] cz)):=⟨_,rfl⟩
  have rest:∀f,Sh (so L) f->∃R1:List (List D),R1.length<=i+1/\(∀a∈R1,Rw L (r.length+q.length) a)/\F kk [‹G1›,‹G2›,none,‹.int z›,‹.tup ((bk L).map kf)›,‹.int L.length›,‹.lst KS›,some (.own (.lst (R0.map .tup))),‹.int i›,‹.tup f›]=kk.nx [‹G1›,‹G2›,none,‹.int z›,‹.tup ((bk L).map kf)›,‹.int L.length›,‹.lst KS›,some (.own (.lst (R1.map .tup))),none,none]:=λf hf=>by
   have fl:=hf.length;rw[vq]at fl;have fi:=G4 (k:=bk L) (vs:=f) (by rw[bl,Oh ‹0›];exact hf);have a1:=fQ f us ‹0›;rw[hF];cases hb:aF (bk L) f with
   |false=>
    rw[hb]at fi;exact⟨R0,by omega,h0,by simp! only[fi]⟩
   |true=>
    rw[hb]at fi;refine⟨R0++[f++us],by rw[MR,MY];omega,λa ha=>?_,?_⟩
    ·rcases List.mem_append.mp ha with e|e
     ·exact h0 a e
     ·rw[List.mem_singleton.mp e];refine⟨by rw[MR];omega,by rw[OM ‹0›];exact hf,λv hv=>(List.mem_append.mp hv).elim (λz=>(sS hf v z).of0 4) (u3 v)⟩
    ·have ap:eQ (R0.map .tup) [.tup (f++us)]=some ((R0++[f++us]).map .tup):=by
      rw[jk (by rw[MS];omega),Nz];rfl
     have sm:=λK:Ks=>jm 7 eQ (af (f2 bK (ah 9) (fR (bi bG 2 2) (af (f2 bK (f2 aE (ah 0) (fC (.int 1))) (f2 aE (ah 1) (fC (.int 1)))) (af (fR (bi aG 1 1) (af (ah 3) (av))) (av))))) (av)) K [‹G1›,‹G2›,none,‹.int z›,‹.tup ((bk L).map kf)›,‹.int L.length›,‹.lst KS›,some (.own (.lst (R0.map .tup))),‹.int i›,‹.tup f›] (xs:=R0.map .tup) rfl;generalize (R0++[f++us]).map D.tup=Y1 at ap ⊢;generalize R0.map D.tup=Y0 at ap sm ⊢;simp! only[fi,sm,i1,j1,adf,ew,eu,a1,ap]
  rw[<-hF];by_cases hc:z%2=1/\KS≠[]
  ·obtain⟨f,hf,ef⟩:=pick hc.2 (z/4);obtain⟨R1,r1,r2,er⟩:=rest f hf;have b1:(z%2==1)=true:=(by rw[hc.1];rfl);have gl:=λi=>eS (i:=i) (show(0:Int)<(KS.length:Int)by have:=List.length_pos_iff.mpr hc.2;omega);rw[decide_eq_false hc.2]at nn;refine⟨_,_,rfl,⟨z,R1,z0,by omega,r1,r2,rfl⟩,?_⟩;rw[<-er];simp! only[ez,g7,l2,d2,g2,eh,ev,b1,EF,nn,d4,gl,ef]
  ·obtain⟨R1,r1,r2,er⟩:=rest vs v2.sh;refine⟨_,_,rfl,⟨z,R1,z0,by omega,r1,r2,rfl⟩,?_⟩;rw[<-er];cases b1:(z%2==1)with
   |false=>simp! only[ez,g7,l2,d2,g2,eh,ev,b1]
   |true=>
    have ke:KS=[]:=Classical.byContradiction λne=>hc ⟨by simpa using b1,ne⟩;rw[decide_eq_true ke]at nn;simp! only[ez,g7,l2,d2,g2,eh,ev,b1,EF,nn]
 ·rintro ρ' ⟨y,R0,y0,y1,l0,h0,rfl⟩;rw[cu]at l0;obtain⟨V,tV,lv,eV⟩:=o8 l1 R0 h0 ‹0›;refine⟨V,tV,by omega,?_⟩;rw[hT];simp! only[eV]
end
section
open Classical
variable{τ:List Bool}{m:Nat}
theorem xL{B:List (List D)}(h:So τ m B)(a:List D):jr m B a=[]\/∃c∈B,c.take m=a.take m/\jr m B a=[a++c.drop m]:=by
 by_cases e:a.take m∈B.map λr=>r.take m
 ·obtain⟨c,hc,ec⟩:=List.mem_map.mp e;exact .inr ⟨c,hc,ec,B9 h hc ec⟩
 ·exact .inl (Ff e)
theorem Lj{A B:List (List D)}{x:List D}:x∈jn m A B↔∃a∈A,∃c∈B,c.take m=a.take m/\x=a++c.drop m:=by
 unfold jn jr;rw[List.mem_flatMap];constructor
 ·rintro⟨a,ha,hx⟩;obtain⟨c,hc,rfl⟩:=List.mem_map.mp hx;obtain⟨h1,h2⟩:=List.mem_filter.mp hc;exact⟨a,ha,c,h1,of_decide_eq_true h2,rfl⟩
 ·rintro⟨a,ha,c,hc,e,rfl⟩;exact⟨a,ha,List.mem_map.mpr ⟨c,List.mem_filter.mpr ⟨hc,decide_eq_true e⟩,rfl⟩⟩
theorem EW{B:List (List D)}(h:So τ m B):∀A:List (List D),(jn m A B).length<=A.length
 |[]=>MC _
 |a::A=>by
  have h2:=EW h A;unfold jn at h2 ⊢;rw[OL,MR,M6];rcases xL h a with e|⟨c,_,_,e⟩
  ·rw[e,M7];omega
  ·rw[e,MY];omega
theorem C7{B:List (List D)}(h:So τ m B):∀A:List (List D),vC m A->(∀a∈A,m<=a.length)->vC m (jn m A B)
 |[],_,_=>.nil
 |a::A,ri,hl=>by
  obtain⟨p1,p2⟩:=List.pairwise_cons.mp ri;have ih:=C7 h A p2 λx hx=>hl x (Mw _ hx);have e:jn m (a::A) B=jr m B a++jn m A B:=by unfold jn;rw[OL]
  rw[e];refine List.pairwise_append.mpr ⟨?_,ih,λx hx y hy=>?_⟩
  ·rcases xL h a with e|⟨c,_,_,e⟩<;>rw[e]
   ·exact .nil
   ·exact N5 _ _
  ·obtain⟨a',ha',c',_,_,rfl⟩:=Lj.mp hy;rcases xL h a with e|⟨c,_,_,e⟩<;>rw[e]at hx
   ·cases hx
   ·rw[List.mem_singleton.mp hx,OO (hl a Mv),OO (hl a' (Mw _ ha'))];exact p1 a' ha'
theorem ER{A B:List (List D)}(tA:Tb τ m A)(tB:Tb τ m B)(hl:∀a∈A,m<=a.length):Tb τ m (jn m A B):=
 Tb.of tA.s.t0 tA.s.hm (λx hx=>by
  obtain⟨a,ha,c,_,_,rfl⟩:=Lj.mp hx;rw[OO (hl a ha)];exact tA.s.sh a ha) (C7 tB.s A tA.ri hl) (NI (EW tB.s A) tA.s.ln)
theorem uz{X:List (List D)}(h:X.Pairwise λa b=>a.take m≠b.take m):X.Nodup:=h.imp λ{a b} ne e=>ne (by rw[e])
theorem qb{X Y:List (List D)}(h:So τ m X)(p:Y.Perm X)(r:vC m Y):Tb τ m Y:=
 Tb.of h.t0 h.hm (λa ha=>h.sh a (p.mem_iff.mp ha)) r (by rw[p.length_eq];exact h.ln)
theorem FK{V:List (List D)}(h:So τ m V){a b:List D}(ha:a∈V)(hb:b∈V)(e:a.take m=b.take m):a=b:=by
 have:=Ge h.pw hb
 have z:a∈V.filter λx=>decide (x.take m=b.take m):=List.mem_filter.mpr ⟨ha,decide_eq_true e⟩;rw[this]at z;exact List.mem_singleton.mp z
theorem back{A B V R1 R2:List (List D)}{e:Nat}(P:Pt τ m e A B V R1 R2)(me:m<=e)(tV:Tb τ m V)(vl:∀v∈V,m<=v.length)(al:∀a∈A,m<=a.length):jn m R1 R2=V:=by
 have t1:=qb P.s1 P.p1 P.r1;have t2:=qb P.s2 P.p2 P.r2;have hl:∀a∈R1,m<=a.length:=λa ha=>by
  rcases List.mem_append.mp (P.p1.mem_iff.mp ha)with z|z
  ·obtain⟨v,hv,rfl⟩:=List.mem_map.mp z;rw[ML];have:=vl v hv;omega
  ·exact al a (o9 z).1
 have tJ:=ER t1 t2 hl;refine xr tJ.s.sh tJ.ri tV.ri ((OG (uz tV.s.pw) (uz tJ.s.pw)).mpr λx=>⟨λhx=>?_,λhx=>?_⟩)
 ·refine Lj.mpr ⟨x.take e,P.p1.mem_iff.mpr (Mx _ (List.mem_map.mpr ⟨x,hx,rfl⟩)),x.take m++x.drop e,P.p2.mem_iff.mpr (Mx _ (List.mem_map.mpr ⟨x,hx,rfl⟩)),?_,?_⟩
  ·rw[oO (vl x hx),OQ,Ol me]
  ·rw[List.drop_left' (by rw[ML];have:=vl x hx;omega),OV]
 ·obtain⟨a,ha,c,hc,ek,rfl⟩:=Lj.mp hx;rcases List.mem_append.mp (P.p1.mem_iff.mp ha)with za|za
  ·obtain⟨v,hv,rfl⟩:=List.mem_map.mp za;rw[OQ,Ol me]at ek;rcases List.mem_append.mp (P.p2.mem_iff.mp hc)with zc|zc
   ·obtain⟨w,hw,rfl⟩:=List.mem_map.mp zc;rw[oO (vl w hw)]at ek
    have:=FK tV.s hw hv ek
    subst this;rw[List.drop_left' (by rw[ML];have:=vl w hw;omega),OV];exact hw
   ·exact absurd (by rw[ek];exact List.mem_map.mpr ⟨v,hv,rfl⟩) (oJ zc).2
  ·obtain⟨_,n1,n2⟩:=o9 za;rcases List.mem_append.mp (P.p2.mem_iff.mp hc)with zc|zc
   ·obtain⟨w,hw,rfl⟩:=List.mem_map.mp zc;rw[oO (vl w hw)]at ek;exact absurd (List.mem_map.mpr ⟨w,hw,ek⟩) n1
   ·exact absurd (List.mem_map.mpr ⟨c,(oJ zc).1,ek⟩) n2
theorem again{A B:List (List D)}{e:Nat}(me:m<=e)(tA:Tb τ m A)(tB:Tb τ m B)(al:∀a∈A,a.length=e)(bl:∀c∈B,m<=c.length):Pt τ m e A B (jn m A B) A B:=by
 have tW:=ER tA tB λa ha=>by rw[al a ha];exact me
 have wl:∀v∈jn m A B,m<=v.length:=λv hv=>by
  obtain⟨a,ha,c,hc,_,rfl⟩:=Lj.mp hv;rw[MR,al a ha];omega
 have row:∀a∈A,∀c∈B,c.take m=a.take m->(a++c.drop m).take e=a/\(a++c.drop m).take m++(a++c.drop m).drop e=c:=λa ha c hc ek=>by
  have h:=al a ha;refine⟨by rw[<-h,List.take_left],?_⟩;rw[<-h,List.drop_left,OO ‹0›,<-ek,OV]
 have kW:∀f,f∈ks m (jn m A B)↔f∈ks m A/\f∈ks m B:=λf=>by
  constructor
  ·intro h;obtain⟨v,hv,rfl⟩:=List.mem_map.mp h;obtain⟨a,ha,c,hc,ek,rfl⟩:=Lj.mp hv;rw[OO (by rw[al a ha];exact me)];exact⟨List.mem_map.mpr ⟨a,ha,rfl⟩,List.mem_map.mpr ⟨c,hc,ek⟩⟩
  ·rintro⟨h1,h2⟩;obtain⟨a,ha,rfl⟩:=List.mem_map.mp h1;obtain⟨c,hc,ek⟩:=List.mem_map.mp h2;exact List.mem_map.mpr ⟨a++c.drop m,Lj.mpr ⟨a,ha,c,hc,ek,rfl⟩,OO (by rw[al a ha];exact me)⟩
 obtain⟨w1,w2⟩:=Fb (e:=e) me tA tB tW wl;have p1:A.Perm (va e (jn m A B)++F1 m A B (jn m A B)):=by
  refine(OG (uz tA.s.pw) (uz w1)).mpr λx=>⟨λhx=>?_,λhx=>?_⟩
  ·by_cases h:x.take m∈ks m B
   ·obtain⟨c,hc,ek⟩:=List.mem_map.mp h;exact Mx _ (List.mem_map.mpr ⟨_,Lj.mpr ⟨x,hx,c,hc,ek,rfl⟩,(row x hx c hc ek).1⟩)
   ·refine MD _ (List.mem_filter.mpr ⟨hx,?_⟩);rw[decide_eq_false h,decide_eq_false λz=>h ((kW _).mp z).2];rfl
  ·rcases List.mem_append.mp hx with z|z
   ·obtain⟨v,hv,rfl⟩:=List.mem_map.mp z;obtain⟨a,ha,c,hc,ek,rfl⟩:=Lj.mp hv;rw[(row a ha c hc ek).1];exact ha
   ·exact(o9 z).1
 have p2:B.Perm (vb m e (jn m A B)++F2 m B (jn m A B)):=by
  refine(OG (uz tB.s.pw) (uz w2)).mpr λx=>⟨λhx=>?_,λhx=>?_⟩
  ·by_cases h:x.take m∈ks m A
   ·obtain⟨a,ha,ek⟩:=List.mem_map.mp h;exact Mx _ (List.mem_map.mpr ⟨_,Lj.mpr ⟨a,ha,x,hx,ek.symm,rfl⟩,(row a ha x hx ek.symm).2⟩)
   ·refine MD _ (List.mem_filter.mpr ⟨hx,?_⟩);rw[decide_eq_false λz=>h ((kW _).mp z).1];rfl
  ·rcases List.mem_append.mp hx with z|z
   ·obtain⟨v,hv,rfl⟩:=List.mem_map.mp z;obtain⟨a,ha,c,hc,ek,rfl⟩:=Lj.mp hv;rw[(row a ha c hc ek).2];exact hc
   ·exact(oJ z).1
 obtain⟨s1,s2⟩:=E5 (e:=e) me tA tB tW wl (by rw[<-p1.length_eq];exact tA.s.ln) (by rw[<-p2.length_eq];exact tB.s.ln);exact⟨s1,s2,tA.ri,tB.ri,p1,p2⟩
end
section
variable{L:List ZP}{r q:List (Str×D)}
theorem EB{A B V R1 R2:List (List D)}{e:Nat}(P:Pt (so L) L.length e A B V R1 R2)(he:L.length+r.length=e)(tA:Tw L r.length A)(tB:Tw L q.length B)(tV:Tw L (r.length+q.length) V):Tw L r.length R1/\Tw L q.length R2:=by
 have t1:=qb P.s1 P.p1 P.r1;have t2:=qb P.s2 P.p2 P.r2;refine⟨⟨t1,λa ha=>?_⟩,⟨t2,λa ha=>?_⟩⟩
 ·rcases List.mem_append.mp (P.p1.mem_iff.mp ha)with z|z
  ·obtain⟨v,hv,rfl⟩:=List.mem_map.mp z;obtain⟨h1,h2,h3⟩:=tV.rw v hv;exact⟨by rw[ML];omega,t1.s.sh _ ha,λx hx=>h3 x (OW hx)⟩
  ·exact tA.rw a (o9 z).1
 ·rcases List.mem_append.mp (P.p2.mem_iff.mp ha)with z|z
  ·obtain⟨v,hv,rfl⟩:=List.mem_map.mp z;obtain⟨h1,h2,h3⟩:=tV.rw v hv;refine⟨by rw[MR,ML,MU];omega,t2.s.sh _ ha,λx hx=>?_⟩;rcases List.mem_append.mp hx with z|z
   ·exact h3 x (OW z)
   ·exact h3 x (List.mem_of_mem_drop z)
  ·exact tB.rw a (oJ z).1
end
abbrev jo:D:=.obj "Join" [] []
theorem mJ{w:Str}{g1 g2:List D->R D}{fo:FX}{fas:aw->R (List D)}{ρ:aw}{as:List D}(h:fo ρ=.ok jo)(ha:fas ρ=.ok as):ga w [("Pair",g1),("Join",g2)] fo fas ρ=g2 (jo::as):=by
 unfold ga;rw[h,d9];have h1:(("Join":Str)==("Pair":Str))=false:=by decide +kernel
 have hm:([]:List Str).contains w=false:=rfl
 have:List.lookup ("Join":Str) [(("Pair":Str),g1),(("Join":Str),g2)]=some g2:=by
  rw[Nc,h1,Nc,BEq.rfl]
 simp only[this,hm,ha,d9];rfl
theorem Hj{A:List (List D)}(al:A.length<=1000)(h:∀a∈A,a.length<=100/\∀v∈a,AL 4 v):AL 6 (.tup (A.map .tup)):=
 AL.tup (by rw[MS];omega) λy hy=>by
  obtain⟨a,ha,rfl⟩:=List.mem_map.mp hy;exact AL.tup (by have:=(h a ha).1;omega) (h a ha).2
theorem yF{a b:D}(ha:AL 6 a)(hb:AL 6 b):AL 7 (.tup [a,b]):=
 AL.tup (by simp) λx hx=>by
  rcases List.mem_cons.mp hx with e|e
  ·rw[e];exact ha
  ·rw[List.mem_singleton.mp e];exact hb
noncomputable abbrev PT:List (Str×(List D->R D)):=[("Pair",(bi fe 4 4)),("Join",(bi dq 4 10))]
abbrev GT:List (Str×(List D->R D)):=[("Pair",(bi fj 3 3)),("Join",(bi dH 3 5))]
theorem Tw.AL{L:List ZP}{w:Nat}{A:List (List D)}(l8:L.length+w<=100)(t:Tw L w A):T4.AL 6 (.tup (A.map .tup)):=Hj (by have:=t.tb.s.ln;omega) λa ha=>⟨by have:=(t.rw a ha).1;omega,(t.rw a ha).2.2⟩
theorem math(ns:List Int)(hl:ns.length<=63):bi rd 1 8 [.lst (ns.map .int)]=.ok (.bl true):=by
 obtain⟨L,r,q,n,l1,l8,s8,ok,n2,hr,hq,_,ej⟩:=AQ ns;obtain⟨A,B,tA,tB,la,lb,et⟩:=zS ns l1 l8 ‹0› ‹0› ok n2 hr hq 40 (by decide) (by decide);obtain⟨x,x0,x1,ex⟩:=vB ns 2 ‹0›;have ex:bi cH 2 3 [.lst (ns.map .int),.int 2]=.ok (.int x):=ex;obtain⟨y,y0,y1,ey⟩:=eN x x0 ‹0›;obtain⟨V,tV,lv,eV⟩:=DQ l1 l8 s8 ok n2 hr hq tA tB y y0 ‹0›;obtain⟨e,he⟩:∃e,L.length+r.length=e:=⟨_,rfl⟩
 have me:L.length<=e:=by omega
 have wV:∀v∈V,L.length<=v.length/\v.length<=100:=λv h=>by have:=(tV.rw v h).1;omega
 have wA:∀a∈A,a.length<=100:=λa h=>by have:=(tA.rw a h).1;omega
 have wB:∀a∈B,a.length<=100:=λa h=>by have:=(tB.rw a h).1;omega
 have kL:(k1 L).length=L.length:=MS _;have tE:∀w,Tw L w []:=λw=>⟨tV.tb.nil,λ_ h=>nomatch h⟩
 obtain⟨R1,R2,P⟩:=EH (e:=e) me tA.tb tB.tb tV.tb (λv h=>(wV v h).1) ‹0› ‹0›;obtain⟨S1,S2,Q⟩:=EH (e:=e) me tV.tb.nil tV.tb.nil tV.tb (λv h=>(wV v h).1) (by simp;omega) (by simp;omega);obtain⟨u1,u2⟩:=EB P he tA tB tV;obtain⟨v1,v2⟩:=EB (q:=q) Q he (tE _) (tE _) tV;have Z:=again me tA.tb tB.tb (λa h=>by rw[(tA.rw a h).1,he]) λc h=>by have:=(tB.rw c h).1;omega
 have w1:∀{w:Nat}{T:List (List D)},w<=8->Tw L w T->∀a∈T,a.length<=100:=λhw t a h=>by have:=(t.rw a h).1;omega
 have p1:=xY P me tA.tb tB.tb wV jo (fr (k2 L) q) (k:=k1 L) (r:=r) kL he;have d1:=CJ P tA.tb tB.tb tV.tb wV (fr (k2 L) q) (k:=k1 L) (r:=r) kL he;have p2:=xY Q me tV.tb.nil tV.tb.nil wV jo (fr (k2 L) q) (k:=k1 L) (r:=r) kL he;have d2:=CJ Q tV.tb.nil tV.tb.nil tV.tb wV (fr (k2 L) q) (k:=k1 L) (r:=r) kL he;have p3:=xY Z me tA.tb tB.tb (λv h=>by
  obtain⟨a,ha,c,hc,_,rfl⟩:=Lj.mp h;rw[MR,MU]
  have:=(tA.rw a ha).1
  have:=(tB.rw c hc).1
  omega) jo (fr (k2 L) q) (k:=k1 L) (r:=r) kL he
 have g1:=yp u1.tb.s.sh u1.tb.s.ln (w1 ‹0› u1) u2.tb.s (w1 ‹0› u2) jo (fr (k2 L) q) (k:=k1 L) (r:=r) kL;rw[back P me tV.tb (λv h=>(wV v h).1) λa h=>by have:=(tA.rw a h).1;omega]at g1;have g2:=yp v1.tb.s.sh v1.tb.s.ln (w1 ‹0› v1) v2.tb.s (w1 ‹0› v2) jo (fr (k2 L) q) (k:=k1 L) (r:=r) kL;rw[back Q me tV.tb (λv h=>(wV v h).1) (λ_ h=>nomatch h)]at g2;have g3:=yp tA.tb.s.sh tA.tb.s.ln wA tB.tb.s wB jo (fr (k2 L) q) (k:=k1 L) (r:=r) kL;have al1:=ku 7 12 _ (by decide) (yF (u1.AL ‹0›) (u2.AL ‹0›));have al2:=ku 7 12 _ (by decide) (yF (v1.AL ‹0›) (v2.AL ‹0›));have al3:=ku 7 12 _ (by decide) (yF (tA.AL ‹0›) (tB.AL ‹0›));have al4:=ku 6 12 _ (by decide) (tV.AL ‹0›);have p2:bi dq 4 10 [jo,.tup [fr (k1 L) r,fr (k2 L) q],.tup [.tup [],.tup []],.tup (V.map .tup)]=.ok (.tup [.tup (S1.map .tup),.tup (S2.map .tup)]):=p2;have d2:bi fw 4 11 [fr (k1 L) r,fr (k2 L) q,.tup [.tup [],.tup []],.tup (V.map .tup)]=.ok (.tup [.tup (S1.map .tup),.tup (S2.map .tup)]):=d2;have un2:∀(a b:D)(ρ:aw),gT 2 (nH [1,2]) (.tup [a,b]) ρ=some (setV 2 b (setV 1 a ρ)):=λ_ _ _=>rfl;have evU:∀(f:FX)(g:GF)(k:Ks)(ρ:aw),DS f g k ρ=si (f ρ) k ρ λd=>(rO (g d ρ)).bind k.nx:=λ_ _ _ _=>rfl;rw[pI];unfold rd;generalize fr (k1 L) r=G1 at *;generalize fr (k2 L) q=G2 at *;generalize (jn L.length A B).map D.tup=WJ at *;generalize A.map D.tup=WA at *;generalize B.map D.tup=WB at *;generalize V.map D.tup=WV at *;generalize R1.map D.tup=X1 at *;generalize R2.map D.tup=X2 at *;generalize S1.map D.tup=Y1 at *;generalize S2.map D.tup=Y2 at *;have m1:∀a0 a6 a7:Option S,ga "put" PT (ah 5) (af (bT (af (ah 1) (af (ah 2) (av)))) (af (ah 3) (af (ah 4) (av)))) [a0,‹G1›,‹G2›,‹.tup [.tup WA,.tup WB]›,‹.tup WV›,‹jo›,a6,a7]=.ok (.tup [.tup X1,.tup X2]):=λ_ _ _=>(mJ rfl (by simp! only[qu])).trans p1;have m2:∀a0 a3 a4 a7:Option S,ga "got" GT (ah 5) (af (bT (af (ah 1) (af (ah 2) (av)))) (af (ah 6) (av))) [a0,‹G1›,‹G2›,a3,a4,‹jo›,‹.tup [.tup X1,.tup X2]›,a7]=.ok (.tup WV):=λ_ _ _ _=>(mJ rfl (by simp! only[qu])).trans g1;have m3:∀a0 a3 a6 a7:Option S,ga "put" PT (ah 5) (af (bT (af (ah 1) (af (ah 2) (av)))) (af (bT (af (bT (av)) (af (bT (av)) (av)))) (af (ah 4) (av)))) [a0,‹G1›,‹G2›,a3,‹.tup WV›,‹jo›,a6,a7]=.ok (.tup [.tup Y1,.tup Y2]):=λ_ _ _ _=>(mJ rfl (by simp! only[qu,Ky])).trans p2;have m4:∀a0 a3 a4 a6:Option S,ga "got" GT (ah 5) (af (bT (af (ah 1) (af (ah 2) (av)))) (af (ah 7) (av))) [a0,‹G1›,‹G2›,a3,a4,‹jo›,a6,‹.tup [.tup Y1,.tup Y2]›]=.ok (.tup WV):=λ_ _ _ _=>(mJ rfl (by simp! only[qu])).trans g2;have m5:∀a0 a4 a6 a7:Option S,ga "got" GT (ah 5) (af (bT (af (ah 1) (af (ah 2) (av)))) (af (ah 3) (av))) [a0,‹G1›,‹G2›,‹.tup [.tup WA,.tup WB]›,a4,‹jo›,a6,a7]=.ok (.tup WJ):=λ_ _ _ _=>(mJ rfl (by simp! only[qu])).trans g3;have m6:∀a0 a4 a6 a7:Option S,ga "put" PT (ah 5) (af (bT (af (ah 1) (af (ah 2) (av)))) (af (ah 3) (af (ga "got" GT (ah 5) (af (bT (af (ah 1) (af (ah 2) (av)))) (af (ah 3) (av)))) (av)))) [a0,‹G1›,‹G2›,‹.tup [.tup WA,.tup WB]›,a4,‹jo›,a6,a7]=.ok (.tup [.tup WA,.tup WB]):=λ_ _ _ _=>(mJ rfl (by simp! only[qu,m5])).trans p3;simp! only[evU,ej,un2,et,ex,ey,eV,m1,d1,al1,m2,al4,m3,qu,Ky,d2,al2,m4,m6,al3]
end Tk51
open PySem PySem.W PyProof.Rows
theorem PySem.W.Fast.tw5576039925008543471 : True := trivial
theorem PySem.W.Fast.tw2994766702906176310 : True := trivial
theorem PySem.W.Fast.tw3437416317042446601 : True := trivial
theorem PySem.W.Fast.tw7259614221386738633 : True := trivial
theorem PySem.W.Fast.tw18357266637518477222 : True := trivial
theorem PySem.W.Fast.tw14828821804013572999 : True := trivial
theorem PySem.W.Fast.tw14708635695406327989 : True := trivial
theorem PySem.W.Fast.tw1759204519814850873 : True := trivial
theorem PySem.W.Fast.tw13790907521454537921 : True := trivial
theorem PySem.W.Fast.tw17772691890195060339 : True := trivial
theorem PySem.W.Fast.tw6376078547329480661 : True := trivial
theorem PySem.W.Fast.tw13114626190125462925 : True := trivial
theorem PySem.W.Fast.tw5032327065684231894 : True := trivial
theorem PySem.W.Fast.tw10165186332665762156 : True := trivial
theorem PySem.W.Fast.tw7524313103976857003 : True := trivial
theorem PySem.W.Fast.tw13344495183130330783 : True := trivial
theorem PySem.W.Fast.tw5509163327165844832 : True := trivial
theorem PySem.W.Fast.tw7611049413418960914 : True := trivial
theorem PySem.W.Fast.tw7832167611270429044 : True := trivial
theorem PySem.W.Fast.tw4272789318740426399 : True := trivial
theorem PySem.W.Fast.tw4793939459642203423 : True := trivial
theorem PySem.W.Fast.tw328339121890138647 : True := trivial
theorem PySem.W.Fast.tw5816286337903162714 : True := trivial
theorem PySem.W.Fast.tw16554973753947493620 : True := trivial
theorem PySem.W.Fast.tw5278526934536873233 : True := trivial
theorem PySem.W.Fast.tw7235436118498780550 : True := trivial
theorem PySem.W.Fast.tw5930773484843394723 : True := trivial
theorem PySem.W.Fast.tw662084368797237318 : True := trivial
theorem PySem.W.Fast.tw14176509710654184333 : True := trivial
theorem PySem.W.Fast.tw5781500230668361903 : True := trivial
theorem PySem.W.Fast.tw15928310234245601234 : True := trivial
theorem PySem.W.Fast.tw3915632174131936542 : True := trivial
theorem PySem.W.Fast.tw4323210094850334343 : True := trivial
theorem PySem.W.Fast.tw16539145129217426793 : True := trivial
theorem PySem.W.Fast.tw4713647338356355143 : True := trivial
theorem PySem.W.Fast.tw12025979286607940220 : True := trivial
theorem PySem.W.Fast.tw4710086405925130460 : True := trivial
theorem PySem.W.Fast.tw4248524296601617780 : True := trivial
theorem PySem.W.Fast.tw3329559593066162720 : True := trivial
theorem PySem.W.Fast.tw15163921485728217213 : True := trivial
theorem PySem.W.Fast.tw6011920673135830446 : True := trivial
theorem PySem.W.Fast.tw98976203689034577 : True := trivial
theorem PySem.W.Fast.tw14188741286591903501 : True := trivial
theorem PySem.W.Fast.tw9009544911713386629 : True := trivial
theorem PySem.W.Fast.tw6045434343437533204 : True := trivial
theorem PySem.W.Fast.tw11668359462539377026 : True := trivial
theorem PySem.W.Fast.tw14637486805026778327 : True := trivial
theorem PySem.W.Fast.tw16593894587506443957 : True := trivial
theorem PySem.W.Fast.tw1986468256880336470 : True := trivial
theorem PySem.W.Fast.tw16958638402648963859 : True := trivial
theorem PySem.W.Fast.tw2792573159787225204 : True := trivial
theorem PySem.W.Fast.tw16025923324957987348 : True := trivial
theorem PySem.W.Fast.tw10715195214422480781 : True := trivial
theorem PySem.W.Fast.tw12814986674156098918 : True := trivial
theorem PySem.W.Fast.tw351919837994398689 : True := trivial
theorem PySem.W.Fast.tw15272837472830850010 : True := trivial
theorem PySem.W.Fast.tw110764825518561857 : True := trivial
theorem PySem.W.Fast.tw18413235143034505299 : True := trivial
theorem PySem.W.Fast.tw158180522758675724 : True := trivial
theorem PySem.W.Fast.tw13171374201819659832 : True := trivial
theorem PySem.W.Fast.tw14657974443298200354 : True := trivial
theorem PySem.W.Fast.tw3211028314932796220 : True := trivial
theorem PySem.W.Fast.tw12753343498120775719 : True := trivial
theorem PySem.W.Fast.tw3324127453565364869 : True := trivial
theorem PySem.W.Fast.tw14448967707593036462 : True := trivial
theorem PySem.W.Fast.tw13464369833345896461 : True := trivial
theorem PySem.W.Fast.tw6319063989735424889 : True := trivial
theorem PySem.W.Fast.tw12268066674570515805 : True := trivial
theorem PySem.W.Fast.tw18319550745974040235 : True := trivial
theorem PySem.W.Fast.tw5274402596978724765 : True := trivial
theorem PySem.W.Fast.tw18004312579378438219 : True := trivial
theorem PySem.W.Fast.tw7164685986079512868 : True := trivial
theorem PySem.W.Fast.tw14401327030862276234 : True := trivial
set_option maxRecDepth 100000 in
set_option maxHeartbeats 0 in
theorem PySem.Challenge.cw_twoglass_k51_joins_put_holds : PySem.Challenge.rw_twoglass_k51_joins_put.Holds := by
  w_on; o_law; k_head; (case hw => w_witness2)
  k_fill
  refine Tk51.walk (l := PySem.Challenge.rw_twoglass_k51_joins_put) rfl rfl (fun w h Y => ⟨PySem.W.km_in_of Y, PySem.W.km_tabs_of Y _ (List.Mem.head _)⟩) ?F Tk51.math
  case F =>
    intro w mg fa h KX G hmg
    refine' Tk51.all_mk KX G hmg ?ac0 ?ac1 ?a0 ?l0 ?c0 ?k0 ?a1 ?i1 ?l1 ?c1 ?k1 ?a2 ?l2 ?c2 ?k2 ?a3 ?l3 ?c3 ?k3 ?a4 ?l4 ?c4 ?k4 ?a5 ?i5 ?l5 ?c5 ?k5 ?a6 ?i6 ?l6 ?c6 ?k6 ?a7 ?i7 ?l7 ?c7 ?k7 ?a8 ?l8 ?c8 ?k8 ?a9 ?l9 ?c9 ?k9 ?a10 ?l10 ?c10 ?k10 ?a11 ?l11 ?c11 ?k11 ?a12 ?l12 ?c12 ?k12 ?a13 ?l13 ?c13 ?k13 ?a14 ?l14 ?c14 ?k14 ?a15 ?l15 ?c15 ?k15 ?a16 ?l16 ?c16 ?k16 ?a17 ?l17 ?c17 ?k17 ?a18 ?l18 ?c18 ?k18 ?a19 ?l19 ?c19 ?k19 ?a20 ?l20 ?c20 ?k20 ?a21 ?l21 ?c21 ?k21 ?a22 ?l22 ?c22 ?k22 ?a23 ?l23 ?c23 ?k23 ?a24 ?l24 ?c24 ?k24 ?a25 ?l25 ?c25 ?k25 ?a26 ?l26 ?c26 ?k26 ?a27 ?l27 ?c27 ?k27 ?a28 ?l28 ?c28 ?k28 ?a29 ?l29 ?c29 ?k29 ?a30 ?l30 ?c30 ?k30 ?p0 ?q0 ?r0 ?s0 ?p1 ?q1 ?r1 ?s1 ?o1 ?m1 ?kp1 ?z0 ?z1 ?z2 ?z3 ?z4 ?z5 ?z6 ?z7 ?z8 ?z9 ?z10 ?z11 ?z12 ?z13 ?lc ?lh ?lt
    case ac0|ac1|a0|l0|c0|k0|a1|i1|l1|c1|k1|a2|l2|c2|k2|a3|l3|c3|k3|a4|l4|c4|k4|a5|i5|l5|c5|k5|a6|i6|l6|c6|k6|a7|i7|l7|c7|k7|a8|l8|c8|k8|a9|l9|c9|k9|a10|l10|c10|k10|a11|l11|c11|k11|a12|l12|c12|k12|a13|l13|c13|k13|a14|l14|c14|k14|a15|l15|c15|k15|a16|l16|c16|k16|a17|l17|c17|k17|a18|l18|c18|k18|a19|l19|c19|k19|a20|l20|c20|k20|a21|l21|c21|k21|a22|l22|c22|k22|a23|l23|c23|k23|a24|l24|c24|k24|a25|l25|c25|k25|a26|l26|c26|k26|a27|l27|c27|k27|a28|l28|c28|k28|a29|l29|c29|k29|a30|l30|c30|k30|p0|q0|r0|s0|p1|q1|r1|s1|o1|m1|kp1|z0|z1|z2|z3|z4|z5|z6|z7|z8|z9|z10|z11|z12|z13 => first|delta TX.Lk;k_is|k_is
    case lc => rfl
    case lh|lt => kernel_rfl
