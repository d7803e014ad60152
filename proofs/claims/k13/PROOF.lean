import PyProof.Rows.All
import KE.KDictOf
import KE.KDictSum
import KE.KSortTup
import KE.KTreeD
import KE.KTryMore
import KE.KUnpack
import Wide.FinOn
import PySem.Challenge.RW_twoglass_k13_changes_joined
set_option Elab.async false
set_option linter.all false
set_option maxRecDepth 100000
section
open PySem PySem.W PyProof.Rows
namespace PySem.W.Fast
theorem tw16861351644000343257:True:=⟨⟩
theorem tw11149111748965005111:True:=⟨⟩
theorem tw15020500103834611948:True:=⟨⟩
theorem tw11762814538404776525:True:=⟨⟩
theorem tw10751590125929781071:True:=⟨⟩
theorem tw14250678862306614705:True:=⟨⟩
theorem tw7686326020667297606:True:=⟨⟩
theorem tw5169679055038079358:True:=⟨⟩
theorem tw8903064154642492255:True:=⟨⟩
theorem tw7726009445078349965:True:=⟨⟩
theorem tw11829749947795059955:True:=⟨⟩
theorem tw8498882544074027673:True:=⟨⟩
theorem tw6294318328375603838:True:=⟨⟩
theorem tw15007348727554695364:True:=⟨⟩
theorem tw4237726896319151070:True:=⟨⟩
theorem tw2369266788837825146:True:=⟨⟩
theorem tw8154312023259744423:True:=⟨⟩
theorem tw11404951332685231815:True:=⟨⟩
theorem tw2536541114358620986:True:=⟨⟩
theorem tw16867182436490851346:True:=⟨⟩
theorem tw14403479060208068847:True:=⟨⟩
theorem tw14335189902229978137:True:=⟨⟩
theorem tw8875551110491508927:True:=⟨⟩
theorem tw3928248786175365338:True:=⟨⟩
theorem tw13146938435814765370:True:=⟨⟩
theorem tw6368788683630020398:True:=⟨⟩
theorem tw17104340478414760233:True:=⟨⟩
theorem tw6327469718518744711:True:=⟨⟩
theorem tw14983033928106945919:True:=⟨⟩
theorem tw2535856294165326397:True:=⟨⟩
theorem tw5435711046690523895:True:=⟨⟩
theorem tw1800455218907520066:True:=⟨⟩
theorem tw2038472212915904566:True:=⟨⟩
theorem tw3353439269077468810:True:=⟨⟩
theorem tw6993551900724017815:True:=⟨⟩
theorem tw11198715352310275517:True:=⟨⟩
theorem tw3828704355024013837:True:=⟨⟩
theorem tw10378280051779612164:True:=⟨⟩
theorem tw10396537223782838709:True:=⟨⟩
theorem tw1679276102020027782:True:=⟨⟩
theorem tw17865719790994093684:True:=⟨⟩
theorem tw14930892531707523547:True:=⟨⟩
theorem tw5486315586532528378:True:=⟨⟩
theorem tw13681389494448358085:True:=⟨⟩
theorem tw7321194838759392804:True:=⟨⟩
theorem tw15603189693279067874:True:=⟨⟩
theorem tw14509732889580624601:True:=⟨⟩
theorem tw2201543671514199562:True:=⟨⟩
theorem tw17244108952785819027:True:=⟨⟩
theorem tw4231927938085539661:True:=⟨⟩
theorem tw11125702193926012282:True:=⟨⟩
theorem tw14294112731425066130:True:=⟨⟩
theorem tw6480831318241080967:True:=⟨⟩
theorem tw4063981200917624383:True:=⟨⟩
theorem tw6007261312338580368:True:=⟨⟩
theorem tw5187182934847818983:True:=⟨⟩
theorem tw5203147116667392455:True:=⟨⟩
theorem tw17244336937863168767:True:=⟨⟩
theorem tw4204380927762615193:True:=⟨⟩
theorem tw4249120503276195405:True:=⟨⟩
theorem tw16153257840217143945:True:=⟨⟩
theorem tw12586099974343517484:True:=⟨⟩
theorem tw2754814196340003200:True:=⟨⟩
theorem tw12521588141399043650:True:=⟨⟩
theorem tw9480771314632111858:True:=⟨⟩
theorem tw5993245511094422798:True:=⟨⟩
theorem tw9037383406167156167:True:=⟨⟩
theorem tw7685667888486900825:True:=⟨⟩
theorem tw7816241995694938042:True:=⟨⟩
theorem tw15476774505655784271:True:=⟨⟩
theorem tw15194193600818632616:True:=⟨⟩
theorem tw2507482497795824198:True:=⟨⟩
theorem tw15882563837474017474:True:=⟨⟩
end PySem.W.Fast
set_option maxHeartbeats 0 in
open_top hd13 for PySem.Challenge.rw_twoglass_k13_changes_joined
end
local macro_rules|`(tactic|omega)=>`(tactic|first|lia|omega (config:={}))
open List renaming take_nil→Ip,drop_nil→Iq,filterMap_cons→IA,mem_cons_self→IB,mem_cons_of_mem→IC,mem_append_left→IE,getElem?_set_self→IG,getElem?_set_ne→IH,mem_append_right→IK,size_toArray→IL,append_nil→IM,of_mem_zip→IP,length_take→IQ,getElem?_append_right→IR,getElem?_replicate→IT,getElem?_append_left→IU,getElem?_map→IV,take_sublist→IW,mem_of_getElem?→IX,length_append→IY,length_map→IZ,length_replicate→Ja,length_drop→Jb,length_singleton→Je,map_nil→Jf,map_cons→Jg,find?_cons→Jj,any_cons→Jk,length_cons→Jl,length_nil→Jm,nodup_nil→Jr,lookup_cons→Js,cons_append→Jv,take_succ_cons→Jw,drop_zero→Jx,drop_succ_cons→Jy,getElem?_eq_getElem→Jz,nil_append→JE,map_congr_left→JF,map_append→JG,getElem?_drop→JI,length_range→JK,length_set→JN,drop_eq_getElem_cons→JO,append_assoc→JQ,drop_length→JR,zip_cons_cons→JS,zip_nil_right→JT,not_lt_nil→JU,nil_lt_cons→JV,cons_lt_cons_iff→JW,filter_cons_of_pos→JX,filter_cons_of_neg→JY,getElem_mem→JZ,take_of_length_le→J5,getElem_of_mem→J6,getElem_take→J7,drop_drop→J8,take_append_drop→J9,drop_of_length_le→Ka,mem_of_mem_drop→Kb,take_succ_eq_append_getElem→Kd,reverse_append→Ke,reverse_perm→Kg,mem_of_mem_take→Kh,zipIdx_cons→Ki,foldl_cons→Kj,length_eq_zero_iff→Kk,drop_left→Kl,drop_sublist→Km,getElem?_take→Kn,getElem_drop→Ko,flatten_cons→Kp,ext_getElem?→Kt,pairwise_map→Ku,getD_eq_getElem?_getD→Kv,map_map→Kw,any_map→Kx,contains_cons→Ky,mem_singleton→KA,mem_cons→KC,find?_cons_of_pos→KG,find?_cons_of_neg→KH,getElem?_cons_succ→KI,replicate_zero→KJ,eraseIdx_eq_take_drop_succ→KL,filter_sublist→KN,length_filter_le→KP,getElem?_eq_none→KQ,set_cons_zero→KR,set_cons_succ→KS,mem_of_find?_eq_some→KW
open Int renaming lt_trans→KU
open Nat renaming lt_of_lt_of_le→Ir,lt_irrefl→Iu,ne_of_lt→Iw,le_trans→Iy,le_of_lt→Iz,le_refl→IJ,le_of_not_lt→Jh,le_of_eq→Ji,lt_trans→Jp,zero_le→Jq,lt_succ_of_lt→Ju,min_self→JA,sub_zero→JM,lt_of_le_of_lt→JP,add_sub_cancel_left→Kc,zero_add→Kf,add_assoc→Kq,eq_zero_or_pos→Kr
open Bool renaming false_ne_true→II,and_eq_true→Jc,false_eq_true→Jt,and_true→JB,and_false→JC,or_eq_true→JD,not_false→J1,not_true→J3,not_eq_true'→J4,or_true→Kz
open Option renaming getD_none→Jd,isSome_map→Jo,isNone_none→KO
open PySem renaming Value→L8,NameKind→L9,Addr→Ma,Expr→Mb,Stmt→Md,Shared→Mf,World→Mg,Program→Mh,Paired→Mi,Heap→Mj,sizeLine→Mk,mainGlobals→Ml,bootBuiltins→Mm,Around→Mo,Scope→Mp,Model→Mq,wpAny→Mr,starEach→Ms,wpAny_mono→Mt,wpAny_execs_nil→Mu,PassesOwn→Mv,wpAny_passesOwn→Mw,wpAny_pure→Mx,wpAny_bind→My,foldedSetIterable→Mz,binaryOp→MA,compareOp→MB,behindInMarks→MC,sizeLine_eq→MD,attributeBase→ME,cLine→MF,Result→MG,FuncData→MH,BindsTo→MI,codeAny→MJ,wpAny_Call_Name_kw→MK,concat_meets→ML,noFill_tuple_add→MM,seq_tuple_add→MN,IsPart→MO,wpAny_field→MP,wpAny_holding→MQ,wpAny_callSpecial?_slot→MR,wpAny_call_entry→MS,wpAny_typeOf→MT,wpAny_newObj_type→MU,keywordEach→MV,Keyword→MX,codeAny_mono→MY,DictEntry→MZ,tupleKind_room_in1→M0,call_meetsIn→M3,wpAny_standAt→M4,wpAny_comprehension_free→M5,wpAny_rule→M6,wpAny_getItem_str_slice→M7,post_val_or_str→M8,wpAny_call→M9,wpAny_attempt→Nr,wpAny_notOrdered_dict→Nv,wpAny_dictEntries→Nw,wpAny_dictEpoch→Nx,wpAny_typeNameOfWhole_keyiter→Ny,wpAny_typeNameOf_keyiter→Nz,ExcBaseFacts→NA,wpAny_loadPart_at→NB,wpAny_missedRemoval_other→NC
open PySem.W renaming methodObj→KY,Frag→KZ,lookIn→K1,findIn→K2,cellsFrom_some→K3,fnOf→K4,codeIn→K8,OpenLaw→K9,keepIn→La,nsIn→Lb,notCls→Lc,kitOne→Ld,kia_one→Le,callWith_K→Lf,BoolBack→Lg,exmOne→Lh,mroIn→Li,subIn→Lj,typeIn→Ln,isNs_of_in→Lp,hasDictIn→Lq,mg_of→Lr,kas_rev→Nb,kas_cmp→Nm,kas_item→Nn
open PySem.Heap renaming lt_size→Lv,get?_none_of_le→Lw,SameBut→Lx,get?_push_of_some→Ly,get?_push_size→Lz,FlyingW→LA,get?_push_ne→LC,get?_update_ne→LD,get?_push_at→LI,get?_update_self→LJ
open PyProof.Rows renaming callWith_type1→LK,slot_tuple_getitem→LL,envOfC→LN,IsTup→LO,boot_list→LQ,boot_dict→LR,boot_tuple→LU,Keyed→Nc,SortSt→Nf,wpS_bind→Ng,wpS_mono→Nh,wpS_forRange→Ni,wpS_pure→Nj,SortKind→Nk,wpS_get→Np,wpS_lift→Nq,wpS_modify→Nt,listUpdate_at→Nu
open PySem.F renaming slot_tuple_add→LV,entry_tuple_add→LW,args_tuple_add_2→LX,slot_dict_get→LY,entry_dict_get→LZ,args_dict_get_2→L0,args_dict_get_3→L4,plainAttrs_dict→L5,type_dict_get→L6,excBase_ValueError→L7
set_option maxHeartbeats 1000000
local macro_rules | `(‹0›)=>`(by omega)
set_option hygiene false
local macro_rules|`(`o)=>`(by omega)|`(`g)=>`((model prog w))|`(`h)=>`(Inv X pins σ H s)|`(`i)=>`((model X.prog X.w))|`(`j)=>`(bC (Nm prog w A κ it) r N s)
set_option hygiene true
namespace L2
open PySem PySem.Spec PyProof.Rows
noncomputable abbrev dA:=List (Option Nat)
noncomputable abbrev bU:=Str->Option L8
noncomputable abbrev lF:=List (Str×L9)
noncomputable abbrev aG:=List (Ma×Obj)
noncomputable abbrev ky:=List (Str×Ma)
noncomputable abbrev aX:=List Mb
noncomputable abbrev cq:=List Md
noncomputable abbrev aF:=List L8
noncomputable abbrev a8:=List Bool
noncomputable abbrev au:=List Ma
noncomputable abbrev bX:=Option Int
noncomputable abbrev aT:=List Nat
noncomputable abbrev aD:=L8->Mf->Prop
noncomputable abbrev cF:=Mf->Prop
noncomputable abbrev ay:=List Str
noncomputable abbrev Key:=Sum Int Str
noncomputable abbrev aE:=List Key
noncomputable def oq:Key->L8->Bool
 |.inl k,v=>Value.isInt k v
 |.inr x,v=>Value.isStrOf x v
noncomputable def Ht(w:Mg):Key->Int
 |.inl k=>hashInt k
 |.inr x=>hashStr w x
theorem bL:∀{k:Key}{v:L8},oq k v=true->(∃i t,k=Sum.inl i/\v=Value.int i t)\/(∃x t,k=Sum.inr x/\v=Value.str x t)
 |.inl i,v,h=>by
  obtain⟨t,e⟩:=Value.isInt_shape (k:=i) (v:=v) h;exact .inl ⟨i,t,rfl,e⟩
 |.inr x,v,h=>by
  obtain⟨t,e⟩:=Value.isStrOf_shape (x:=x) (v:=v) h;exact .inr ⟨x,t,rfl,e⟩
theorem vz(i:Int)(t:Tok):oq (.inl i) (.int i t)=true:=by simp[oq,Value.isInt]
theorem vF(x:Str)(t:Tok):oq (.inr x) (.str x t)=true:=by simp[oq,Value.isStrOf]
theorem DC(a b:Int):decide ((Sum.inl a:Key)=Sum.inl b)=(a==b):=by
 by_cases e:a=b
 ·subst e;simp
 ·have h:¬(Sum.inl a:Key)=Sum.inl b:=λq=>e (Sum.inl.inj q);rw[decide_eq_false h];exact(beq_eq_false_iff_ne.mpr e).symm
theorem CA(a b:Str):decide ((Sum.inr a:Key)=Sum.inr b)=decide (a=b):=by
 by_cases e:a=b
 ·subst e;simp
 ·have h:¬(Sum.inr a:Key)=Sum.inr b:=λq=>e (Sum.inr.inj q);rw[decide_eq_false h,decide_eq_false e]
theorem Dc(a:Int)(b:Str):decide ((Sum.inl a:Key)=Sum.inr b)=false:=decide_eq_false (λq=>nomatch q)
theorem DX(a:Str)(b:Int):decide ((Sum.inr a:Key)=Sum.inl b)=false:=decide_eq_false (λq=>nomatch q)
noncomputable def aQ(prog:Mh)(w:Mg):PySem.KeyKind prog w Key where
 is:=oq
 hash:=Ht w
 inj:=λv a b ha hb=>by
  rcases bL ha with⟨i,t,rfl,rfl⟩|⟨x,t,rfl,rfl⟩
  ·rcases bL hb with⟨j,u,rfl,e⟩|⟨y,u,rfl,e⟩
   ·injection e with e1 _;rw[e1]
   ·exact nomatch e
  ·rcases bL hb with⟨j,u,rfl,e⟩|⟨y,u,rfl,e⟩
   ·exact nomatch e
   ·injection e with e1 _;rw[e1]
 byValue:=λk v h=>by
  rcases bL h with⟨i,t,rfl,rfl⟩|⟨x,t,rfl,rfl⟩<;>rfl
 pyHash:=λhv h=>by
  rcases bL hv with⟨i,t,rfl,rfl⟩|⟨x,t,rfl,rfl⟩
  ·exact wpAny_pyHash_int h
  ·exact wpAny_pyHash_str h
 eqBool:=λhu hv h=>by
  rcases bL hu with⟨i,t,rfl,rfl⟩|⟨x,t,rfl,rfl⟩
  ·rcases bL hv with⟨j,u,rfl,rfl⟩|⟨y,u,rfl,rfl⟩
   ·rw[DC]at h;exact wpAny_eqBool_int h
   ·rw[Dc]at h;exact SeqAt.EqAt.int_str i t y u _ _ _ _ h
  ·rcases bL hv with⟨j,u,rfl,rfl⟩|⟨y,u,rfl,rfl⟩
   ·rw[DX]at h;exact SeqAt.EqAt.str_int x t j u _ _ _ _ h
   ·rw[CA]at h;exact wpAny_eqBool_str h
 «strs»:=λk x t v h=>by
  rcases bL h with⟨i,u,rfl,e⟩|⟨y,u,rfl,e⟩
  ·exact nomatch e
  ·injection e with e1 _;subst e1;cases v<;>rfl
theorem p9(prog:Mh)(w:Mg)(i:Int)(t:Tok):(aQ prog w).is (.inl i) (.int i t)=true:=vz i t
theorem qc(prog:Mh)(w:Mg)(x:Str)(t:Tok):(aQ prog w).is (.inr x) (.str x t)=true:=vF x t
inductive V where
 |non|bl (b:Bool)|int (i:Int)|str (x:Str)|byt (b:Array UInt8)|flt (b:UInt64)|ref (a:Ma)|ty (n:String)
 deriving DecidableEq
noncomputable abbrev aB:=List V
noncomputable def RelV:V->L8->Prop
 |.non,u=>u=Value.none
 |.bl b,u=>u=Value.bool b
 |.int i,u=>∃t,u=Value.int i t
 |.str x,u=>∃t,u=Value.str x t
 |.byt b,u=>∃t,u=Value.bytes b t
 |.flt b,u=>∃t,u=Value.float b t
 |.ref a,u=>u=Value.ref a
 |.ty n,u=>u=Value.type n
noncomputable abbrev Vals:aB->aF->Prop:=Mi RelV
theorem Vals.length{xs:aB}{us:aF}(r:Vals xs us):xs.length=us.length:=Paired.length r
theorem Vals.get:∀{xs:aB}{us:aF}{i:Nat}{x:V},Vals xs us->xs[i]?=some x->∃u,us[i]?=some u/\RelV x u
 |_,_,_,_,.nil,e=>by simp at e
 |_,_,0,_,.cons r _,e=>by simp at e;subst e;exact⟨_,rfl,r⟩
 |_,_,i+1,x,.cons _ t,e=>by
  obtain⟨u,h1,h2⟩:=Vals.get (i:=i) (x:=x) t (by simpa using e);exact⟨u,by simpa using h1,h2⟩
theorem Vals.append{xs ys:aB}{us ws:aF}(h:Vals xs us)(s:Vals ys ws):Vals (xs++ys) (us++ws):=by
 induction h with
 |nil=>exact s
 |cons r _ ih=>exact .cons r ih
theorem Vals.take{xs:aB}{us:aF}(n:Nat)(h:Vals xs us):Vals (xs.take n) (us.take n):=by
 induction h generalizing n with
 |nil=>rw[Ip,Ip];exact .nil
 |cons r _ ih=>
  cases n with
  |zero=>exact .nil
  |succ n=>exact .cons r (ih n)
theorem Vals.drop{xs:aB}{us:aF}(n:Nat)(h:Vals xs us):Vals (xs.drop n) (us.drop n):=by
 induction h generalizing n with
 |nil=>rw[Iq,Iq];exact .nil
 |cons r t ih=>
  cases n with
  |zero=>exact .cons r t
  |succ n=>exact ih n
noncomputable def kZ:Option V->Option L8->Prop
 |some v,some u=>RelV v u
 |none,none=>True
 |_,_=>False
noncomputable def KV{κ:Type}:List (κ×V)->List (κ×L8)->Prop:=Mi λ(p:κ×V)(q:κ×L8)=>p.1=q.1/\RelV p.2 q.2
noncomputable def kV:Key->V
 |.inl i=>.int i
 |.inr x=>.str x
inductive HO where
  |lst (xs:aB)
  |tup (xs:aB)
  |dK (kvs:List (Key×V))|dT (kvs:List (List Key×V))
  |set (S:Int->Bool) (n:Nat)
  |ins (C dx:Ma) (fs:List (Str×V))
  |own (x:Ma)
  |xd (fs:List (Str×V))
  |met (f x:Ma)
  |rng (lo hi:Int)
  |frz (o:Obj) (u:HO)
  |tbl (ps:Array L8)
  |ext (φ:(Ma->Prop)->Mj->Prop)
noncomputable abbrev Hp:=Ma->Option HO
noncomputable def upd(H:Hp)(a:Ma)(o:HO):Hp:=λb=>if b=a then some o else H b
theorem ah{H:Hp}{a:Ma}{o:HO}:upd H a o a=some o:=by unfold upd;rw[if_pos rfl]
theorem ai{H:Hp}{a b:Ma}{o:HO}(h:b≠a):upd H a o b=H b:=by unfold upd;rw[if_neg h]
theorem Bc{H:Hp}{a:Ma}{o u:HO}:upd (upd H a o) a u=upd H a u:=by
 funext b;unfold upd;split<;>rfl
theorem y8{H:Hp}{a b:Ma}{o u:HO}(h:H a=some o)(h':H b=some u)(d:o≠u):a≠b:=by
 intro e;subst e;rw[h]at h';exact d (Option.some.inj h')
theorem aP{H:Hp}{a b:Ma}{o:HO}(h:H a=some o)(h':H b=none):a≠b:=by
 intro e;subst e;rw[h]at h';cases h'
section
variable(P:Mh)(w:Mg)
noncomputable def a7(H:Hp)(h:Mj)(a:Ma):HO->Prop
 |.lst xs=>xs.length<=Mk/\∃(its:aF)(n:Nat),Vals xs its/\h.get? a=some {cls:=.type "list",data:=.seq its.toArray n}
 |.tup xs=>xs.length<=Mk/\∃its:aF,Vals xs its/\IsTup h a its.toArray
 |.dK kvs=>kvs.length<=Mk/\(a==sysModules)=false/\∃vs,KV kvs vs/\h.DictOf (aQ P w) a vs
 |.dT kvs=>kvs.length<=Mk/\(a==sysModules)=false/\∃xs:List (List Key×Ma×L8),
   Mi (λ(p:List Key×V)(q:List Key×Ma×L8)=>p.1=q.1/\H q.2.1=some (.tup (p.1.map kV))/\RelV p.2 q.2.2) kvs xs/\
   ∃o es ep,h.get? a=some o/\o.ExactDict/\o.data=.dict es ep/\es.toList=xs.map (entryOfKey (tupleKind (aQ P w)))/\(xs.map (·.1)).Nodup
 |.set S n=>h.SetOf (intKind P w) a S n
 |.ins C dx fs=>H dx=some (.own a)/\fs.length<=1000/\dx≠a/\h.get? a=some (PySem.W.instObj C dx)/\
   ∃mA,h.Ns1 dx mA/\(∀f,kZ (fs.lookup f) (mA f))/\PySem.Within mA (fs.map (·.1))
 |.own _=>∃o,h.get? a=some o
 |.xd fs=>∃mA,h.Ns1 a mA/\∀f,kZ (fs.lookup f) (mA f)
 |.rng lo hi=>∃t u v,h.get? a=some {cls:=.type "range",data:=.fields #[.int lo t,.int hi u,.int 1 v]}
 |.frz o u=>h.get? a=some o/\a7 H h a u
 |.tbl ps=>h.get? a=some {cls:=.none,data:=.fields ps}
 |.met f x=>h.get? a=some (KY (.ref f) (.ref x))
 |.ext φ=>φ (λb=>H b=some (.own a)) h/\(∃o,h.get? a=some o)/\∀(S1 S2:Ma->Prop)(h1 h2:Mj),φ S1 h1->(∀b,S1 b->S2 b)->(∀b o,(b=a\/S1 b)->h1.get? b=some o->h2.get? b=some o)->φ S2 h2
noncomputable def kN(H:Hp)(h:Mj):Prop:=∀a o,H a=some o->a7 P w H h a o
end
section
variable{P:Mh}{w:Mg}{H H':Hp}{h h':Mj}{a:Ma}{o:HO}
theorem a7.lt(x:a7 P w H h a o):a<h.objs.size:=by
 cases o with
 |lst xs=>obtain⟨_,_,_,_,e⟩:=x;exact Lv e
 |tup xs=>obtain⟨_,_,_,p⟩:=x;exact p.lt
 |dK kvs=>obtain⟨_,_,_,_,o,_,_,e,_⟩:=x;exact Lv e
 |dT kvs=>obtain⟨_,_,_,_,o,_,_,e,_⟩:=x;exact Lv e
 |set S n=>obtain⟨o,_,_,_,e,_⟩:=x;exact Lv e
 |ins C dx fs=>obtain⟨_,_,_,e,_⟩:=x;exact Lv e
 |own y=>obtain⟨_,e⟩:=x;exact Lv e
 |xd fs=>obtain⟨_,⟨_,_,_,e,_⟩,_⟩:=x;exact Lv e
 |rng lo hi=>obtain⟨_,_,_,e⟩:=x;exact Lv e
 |frz ob u=>obtain⟨e,_⟩:=x;exact Lv e
 |tbl ps=>exact Lv (show h.get? a=some _ from x)
 |met f y=>exact Lv (show h.get? a=some _ from x)
 |ext φ=>obtain⟨_,⟨_,e⟩,_⟩:=x;exact Lv e
theorem Paired.mapP{α β:Type}{F G:α->β->Prop}{l₁:List α}{l₂:List β}(h:Mi F l₁ l₂)(f:∀a b,F a b->G a b):Mi G l₁ l₂:=by
 induction h with
 |nil=>exact .nil
 |cons r _ ih=>exact .cons (f _ _ r) ih
theorem a7.stay(x:a7 P w H h a o)(k:∀b u,(b=a\/H b=some (.own a))->h.get? b=some u->h'.get? b=some u)
  (ho:∀b,H b=some (.own a)->H' b=some (.own a)) (ht:∀b xs,H b=some (.tup xs)->H' b=some (.tup xs)):a7 P w H' h' a o:=by
 induction o with
 |lst xs=>obtain⟨z,its,n,r,e⟩:=x;exact⟨z,its,n,r,k _ _ (.inl rfl) e⟩
 |tup xs=>obtain⟨z,its,r,ob,e,c⟩:=x;exact⟨z,its,r,ob,k _ _ (.inl rfl) e,c⟩
 |dK kvs=>obtain⟨z,y,vs,r,ob,es,ep,e,c⟩:=x;exact⟨z,y,vs,r,ob,es,ep,k _ _ (.inl rfl) e,c⟩
 |dT kvs=>
  obtain⟨z,y,xs,r,ob,es,ep,e,c⟩:=x;exact⟨z,y,xs,Paired.mapP r λp q z=>⟨z.1,ht _ _ z.2.1,z.2.2⟩,ob,es,ep,k _ _ (.inl rfl) e,c⟩
 |set S n=>obtain⟨ob,es,ep,t,e,c⟩:=x;exact⟨ob,es,ep,t,k _ _ (.inl rfl) e,c⟩
 |ins C dx fs=>
  obtain⟨d,z,ne,e,mA,⟨od,es,ep,e2,c⟩,r⟩:=x;exact⟨ho _ d,z,ne,k _ _ (.inl rfl) e,mA,⟨od,es,ep,k _ _ (.inr d) e2,c⟩,r⟩
 |own y=>obtain⟨ob,e⟩:=x;exact⟨ob,k _ _ (.inl rfl) e⟩
 |xd fs=>obtain⟨mA,⟨od,es,ep,e,c⟩,r⟩:=x;exact⟨mA,⟨od,es,ep,k _ _ (.inl rfl) e,c⟩,r⟩
 |rng lo hi=>obtain⟨t,u,v,e⟩:=x;exact⟨t,u,v,k _ _ (.inl rfl) e⟩
 |frz ob u ih=>obtain⟨e,q⟩:=x;exact⟨k _ _ (.inl rfl) e,ih q⟩
 |tbl ps=>
  have e:h.get? a=some {cls:=.none,data:=.fields ps}:=x;show h'.get? a=some {cls:=.none,data:=.fields ps};exact k a _ (.inl rfl) e
 |met f y=>
  have e:h.get? a=some (KY (.ref f) (.ref y)):=x;show h'.get? a=some (KY (.ref f) (.ref y));exact k a _ (.inl rfl) e
 |ext φ=>obtain⟨p,⟨o,e⟩,st⟩:=x;exact⟨st _ _ _ _ p ho k,⟨o,k _ _ (.inl rfl) e⟩,st⟩
theorem kN.lt(x:kN P w H h)(e:H a=some o):a<h.objs.size:=(x a o e).lt
theorem kN.fresh(x:kN P w H h)(e:h.objs.size<=a):H a=none:=by
 cases q:H a with
 |none=>rfl
 |some u=>exact absurd (Ir (x.lt q) e) (Iu _)
theorem kN.kept(x:kN P w H h)(k:∀b u,h.get? b=some u->h'.get? b=some u):kN P w H h':=λa o e=>
 (x a o e).stay (λb u _ q=>k b u q) (λ_ q=>q) λ_ _ q=>q
theorem kN.laid(x:kN P w H h)(k:∀b u,h.get? b=some u->h'.get? b=some u)(hp:h.objs.size<=a)(new:a7 P w (upd H a o) h' a o):kN P w (upd H a o) h':=λb u e=>by
 have hn:=x.fresh hp;by_cases hb:b=a
 ·subst hb;rw[ah]at e;cases e;exact new
 ·rw[ai hb]at e;exact(x b u e).stay (λc v _ q=>k c v q) (λc q=>by rw[ai (aP q hn)];exact q) λc xs q=>by rw[ai (aP q hn)];exact q
end
noncomputable def Rd(H:Hp)(a:Ma)(u:HO):Prop:=H a=some u\/∃o,H a=some (.frz o u)
theorem Rd.ok{P:Mh}{w:Mg}{H:Hp}{h:Mj}{a:Ma}{u:HO}(r:Rd H a u)(x:kN P w H h):a7 P w H h a u:=by
 rcases r with r|⟨o,r⟩
 ·exact x a u r
 ·obtain⟨_,q⟩:=x a _ r;exact q
noncomputable def FQ:Option HO->Prop
 |some (.lst _)=>True
 |some (.dK _)=>True
 |some (.dT _)=>True
 |some (.set _ _)=>True
 |some (.ins _ _ _)=>True
 |some (.ext _)=>True
 |_=>False
section
variable{P:Mh}{w:Mg}{H:Hp}{h h':Mj}{x e:Ma}{o':HO}
theorem kN.write(ok:kN P w H h)(mu:FQ (H x))(he:e=x\/H e=some (.own x))(k:∀b u,b≠e->h.get? b=some u->h'.get? b=some u)(heo:∃u,h'.get? e=some u)
  (new:a7 P w (upd H x o') h' x o'):kN P w (upd H x o') h':=λb u q=>by
 have nown:∀c y,H c=some (.own y)->c≠x:=λc y r z=>by subst z;rw[r]at mu;exact mu
 have ntup:∀c xs,H c=some (.tup xs)->c≠x:=λc xs r z=>by subst z;rw[r]at mu;exact mu
 by_cases hb:b=x
 ·subst hb;rw[ah]at q;cases q;exact new
 ·rw[ai hb]at q;by_cases hbe:b=e
  ·have q':H b=some (.own x):=by
    rcases he with z|z
    ·exact absurd (hbe.trans z) hb
    ·rw[hbe];exact z
   rw[q]at q';cases q';obtain⟨v,hv⟩:=heo;exact⟨v,by rw[hbe];exact hv⟩
  ·refine(ok b u q).stay (λc v hc r=>k c v ?_ r) (λc r=>by rw[ai (nown c b r)];exact r) λc xs r=>by rw[ai (ntup c xs r)];exact r
   rcases hc with rfl|hc
   ·exact hbe
   ·rintro rfl;rcases he with z|z
    ·exact nown c b hc z
    ·rw[hc]at z;cases z;exact hb rfl
end
structure Un(fs ex:au)(H H':Hp)(h h':Mj):Prop where
 keep:∀b o,h.get? b=some o->H b=none->b∉fs->b∉ex->h'.get? b=some o
 slot:∀b o,h.get? b=some o->H b=none->b∈fs->b∉ex->∃sl,h'.get? b=some {o with slots:=sl}
 free:∀b o,h.get? b=some o->H b=none->b∉ex->H' b=none
 there:∀b o,h.get? b=some o->b∉ex->∃o',h'.get? b=some o'
 tups:∀b xs,H b=some (.tup xs)->H' b=some (.tup xs)
 frzs:∀b o u,H b=some (.frz o u)->H' b=some (.frz o u)
 tbls:∀b ps,H b=some (.tbl ps)->∃more,H' b=some (.tbl (ps++more))
section
variable{fs fs' ex ex':au}{H H1 H2:Hp}{h h1 h2 h':Mj}{a x e:Ma}{o:HO}
theorem Un.any(u:Un fs ex H H1 h h1){b:Ma}{ob:Obj}(q:h.get? b=some ob)(n:H b=none)(hx:b∉ex):∃sl,h1.get? b=some {ob with slots:=sl}:=by
 by_cases hb:b∈fs
 ·exact u.slot b ob q n hb hx
 ·exact⟨ob.slots,u.keep b ob q n hb hx⟩
theorem Un.kept(k:∀b u,h.get? b=some u->h'.get? b=some u):Un fs ex H H h h':=
 ⟨λb ob q _ _ _=>k b ob q,λb ob q _ _ _=>⟨ob.slots,k b ob q⟩,λ_ _ _ n _=>n,λb ob q _=>⟨ob,k b ob q⟩,λ_ _ q=>q,λ_ _ _ q=>q,λ_ ps q=>⟨#[],by rw[q];simp⟩⟩
theorem Un.refl:Un fs ex H H h h:=Un.kept λ_ _ q=>q
theorem Un.laid(k:∀b u,h.get? b=some u->h'.get? b=some u)(hp:h.objs.size<=a)(hn:H a=none):Un fs ex H (upd H a o) h h' where
 keep:=λb u q _ _ _=>k b u q
 slot:=λb u q _ _ _=>⟨u.slots,k b u q⟩
 free:=λb u q n _=>by rw[ai (Iw (Ir (Lv q) hp))];exact n
 there:=λb u q _=>⟨u,k b u q⟩
 tups:=λb xs q=>by rw[ai (aP q hn)];exact q
 frzs:=λb u xs q=>by rw[ai (aP q hn)];exact q
 tbls:=λb ps q=>⟨#[],by rw[ai (aP q hn),q];simp⟩
theorem Un.write(mu:FQ (H x))(he:e=x\/H e=some (.own x))(k:∀b u,b≠e->h.get? b=some u->h'.get? b=some u)(heo:∃u,h'.get? e=some u):Un fs ex H (upd H x o) h h':=by
 have hx:∀b,H b=none->b≠x:=λb n z=>by subst z;rw[n]at mu;exact mu
 have hb:∀b,H b=none->b≠e:=λb n z=>by
  subst z;rcases he with r|r
  ·exact hx b n r
  ·rw[n]at r;cases r
 have hm:∀b u,H b=some u->¬FQ (some u)->b≠x:=λb u q nm z=>by subst z;rw[q]at mu;exact nm mu
 refine⟨λb u q n _ _=>k b u (hb b n) q,λb u q n _ _=>⟨u.slots,k b u (hb b n) q⟩,λb u q n _=>by rw[ai (hx b n)];exact n,λb u q _=>?_,
  λb xs q=>by rw[ai (hm b _ q λz=>z)];exact q,λb u xs q=>by rw[ai (hm b _ q λz=>z)];exact q,λb ps q=>⟨#[],by rw[ai (hm b _ q λz=>z),q];simp⟩⟩
 by_cases hbe:b=e
 ·subst hbe;exact heo
 ·exact⟨u,k b u hbe q⟩
end
noncomputable def Gn(h:Mj)(H:Hp):au:=(List.range h.objs.size).filter λa=>(H a).isSome
noncomputable def kR(h:Mj)(H:Hp):Mj:=PySem.W.hideAll h (Gn h H)
theorem vY(h:Mj)(H:Hp):(kR h H).objs.size=h.objs.size:=PySem.W.hideAll_size _ _
theorem qI{h:Mj}{H:Hp}{b:Ma}{o:Obj}(e:h.get? b=some o)(n:H b=none):(kR h H).get? b=some o:=
 PySem.W.hideAll_get _ e λhm=>by
  have q:(H b).isSome=true:=(List.mem_filter.mp hm).2;rw[n]at q;simp at q
theorem li{h:Mj}{H:Hp}{b:Ma}{o:Obj}(e:(kR h H).get? b=some o):h.get? b=some o/\H b=none:=by
 have e':h.get? b=some o:=PySem.W.of_hideAll (Gn h H) e;refine⟨e',?_⟩;cases q:H b with
 |none=>rfl
 |some x=>
  have hm:b∈Gn h H:=List.mem_filter.mpr ⟨List.mem_range.mpr (Lv e'),by simp[q]⟩;have z:(kR h H).get? b=none:=PySem.W.hideAll_none (Gn h H) hm;rw[z]at e;cases e
noncomputable def zV(g h:Mj)(L:Ma):aG:=(List.range h.objs.size).filterMap λa=>if a=L\/(g.get? a).isSome=true then none else(h.get? a).map λo=>(a,o)
noncomputable def rest(g h:Mj)(L d:Ma):aG:=(zV g h L).filter λp=>decide (p.1≠d)
structure Mod(K:KZ)(mg:bU)(base:Mj):Prop where
 kin:K.In base
 glob:base.Ns Ml mg
 blt:∃mb,base.Ns builtinsNs mb/\∀x:Str,x≠"__name__"->mb x=Mm x
 nolimit:base.NoLimit
structure Cx where
 prog:Mh
 w:Mg
 K:KZ
 mg:bU
 base:Mj
 A:Mo
 N:ay
 s₀:Mf
 H₀:Hp
 env:Env
 outer:List Env
 stack:List Env
 ex:au
 fn:Str->Bool
 calm:Bool
 pn:aG
 xe:aD
noncomputable def frs(l:List Env):au:=l.filterMap (·.frame)
noncomputable abbrev Cx.fs(X:Cx):au:=frs X.outer
noncomputable def Dk(sc:Mp)(x:Str):Prop:=sc.names.lookup x=some .local\/sc.names.lookup x=some .cell\/sc.names.lookup x=some .free
noncomputable def Loc(sc:Mp)(x:Str):Prop:=sc.names.lookup x=some .local\/sc.names.lookup x=some .cell
noncomputable def Look(env:Env)(h:Mj)(m:bU)(x:Str)(u:L8):Prop:=
 (env.kindOf x=some .local/\m x=some u)\/((env.kindOf x=some .cell\/env.kindOf x=some .free)/\∃c,env.cells.lookup x=some c/\h.IsCell c (some u))
structure Cx.Ok(X:Cx):Prop where
 mod:Mod X.K X.mg X.base
 kind:X.env.scope.kind=.function
 glob:X.env.globals=Ml
 blt:X.env.builtins=builtinsNs
 above:X.s₀.heap.objs.size<=X.env.locals
 inj:∀x y c,X.env.cells.lookup x=some c->X.env.cells.lookup y=some c->x=y
 has:∀x,(X.env.kindOf x=some .cell\/X.env.kindOf x=some .free)->∃c,X.env.cells.lookup x=some c
 cab:∀x c,X.fn x=true->X.env.cells.lookup x=some c->X.s₀.heap.objs.size<=c
 hd:X.calm=true->X.A.handled=none
 frames:X.A.frames=some X.stack
 stk:X.stack=X.outer\/(X.stack=X.env::X.outer/\X.env.frame=some X.env.locals)
 exf:∀b∈X.ex,b≠X.env.locals/\∀x c,X.env.cells.lookup x=some c->c≠b
 bs:∀b o,X.base.get? b=some o->X.s₀.heap.get? b=some o/\X.H₀ b=none
 bsz:X.base.objs.size<=X.s₀.heap.objs.size
 noex:∀b o,X.base.get? b=some o->b∉X.ex
 exfs:∀b∈X.ex,b∉X.fs
 funs:X.s₀.heap.FunFrames X.base X.outer
 frf:∀b∈X.fs,X.H₀ b=none
structure Inv(X:Cx)(pins:aG)(σ:List (Option V))(H:Hp)(s:Mf):Prop where
 ok:X.Ok
 os:s.os=X.s₀.os
 bare:AllBare s.gens
 base:Un X.fs X.ex X.H₀ H X.s₀.heap s.heap
 loc:∃m,s.heap.Ns X.env.locals m/\∀(i:Nat)(x:Str)(v:V),X.N[i]?=some x->σ[i]?=some (some v)->Dk X.env.scope x->∃u,RelV v u/\Look X.env s.heap m x u
 cell:∀x c,X.env.cells.lookup x=some c->∃v,s.heap.IsCell c v
 free:H X.env.locals=none
 freeC:∀x c,X.env.cells.lookup x=some c->H c=none
 pin:∀p∈X.pn++pins,s.heap.get? p.1=some p.2/\H p.1=none/\p.1≠X.env.locals/\p.1∉X.fs/\∀v,p.2.data≠.cell v
 hok:kN X.prog X.w H s.heap
 len:σ.length=X.N.length
section
variable{X:Cx}{pins:aG}{σ:List (Option V)}{H H':Hp}{s:Mf}{h':Mj}
theorem Cx.Ok.nofr(ok:X.Ok){b:Ma}{o:Obj}(e:X.base.get? b=some o):b∉X.fs:=λhb=>by
 have:=(ok.funs.mem hb).1
 rw[e]at this;cases this
theorem Inv.bs(I:`h):∀b o,X.base.get? b=some o->s.heap.get? b=some o/\H b=none:=λb o e=>
 ⟨I.base.keep b o (I.ok.bs b o e).1 (I.ok.bs b o e).2 (I.ok.nofr e) (I.ok.noex b o e),I.base.free b o (I.ok.bs b o e).1 (I.ok.bs b o e).2 (I.ok.noex b o e)⟩
theorem Inv.bk(I:`h):∀b o,X.base.get? b=some o->s.heap.get? b=some o:=λb o e=>(I.bs b o e).1
theorem Inv.mod(I:`h):Mod X.K X.mg X.base:=I.ok.mod
theorem Inv.kIn(I:`h):X.K.In s.heap:=I.ok.mod.kin.keeps I.bk
theorem Inv.lt(I:`h):X.env.locals<s.heap.objs.size:=let ⟨_,hn,_⟩:=I.loc;hn.lt
theorem Inv.sz(I:`h):X.s₀.heap.objs.size<=s.heap.objs.size:=Iy I.ok.above (Iz I.lt)
theorem Inv.nofs(I:`h){a:Ma}(h:s.heap.objs.size<=a):a∉X.fs:=λhb=>by
 obtain⟨_,o,ho,_⟩:=I.ok.funs.mem hb;exact absurd (Ir (Lv ho) (Iy I.sz h)) (Iu _)
theorem Inv.cne(I:`h):∀x c,X.env.cells.lookup x=some c->c≠X.env.locals:=λx c e z=>by
 obtain⟨v,o,ho,hd⟩:=I.cell x c e;obtain⟨m,⟨o',es,ep,ho',hd',_⟩,_⟩:=I.loc;rw[z,ho']at ho;cases ho;rw[hd']at hd;cases hd
theorem Inv.funs(I:`h):s.heap.FunFrames X.base X.outer:=by
 have all:∀(l:List Env),(∀b∈frs l,b∈X.fs)->X.s₀.heap.FunFrames X.base l->s.heap.FunFrames X.base l:=by
  intro l
  induction l with
  |nil=>intro _ _;trivial
  |cons env r ih=>
   intro hs hl;obtain⟨hk,⟨L,o,hf,hn,ho,hd⟩,hr⟩:=hl;have hL:L∈X.fs:=hs L (by unfold frs;rw[IA,hf];exact IB);obtain⟨sl,e⟩:=I.base.slot L o ho (I.ok.frf L hL) hL λz=>I.ok.exfs L z hL;exact⟨hk,⟨L,_,hf,hn,e,hd⟩,ih (λb hb=>hs b (by unfold frs;rw[IA,hf];exact IC _ hb)) hr⟩
 exact all X.outer (λ_ hb=>hb) I.ok.funs
theorem Inv.stack(I:`h):s.heap.FunFrames X.base X.stack:=by
 rcases I.ok.stk with e|⟨e,hf⟩
 ·rw[e];exact I.funs
 ·rw[e];obtain⟨m,hn,_⟩:=I.loc;refine .cons (by rw[I.ok.kind];decide) hf hn ?_ I.funs;exact Lw (Iy I.ok.bsz I.ok.above)
theorem Inv.stkSub(I:`h):∀b∈frs X.stack,b∈X.env.locals::X.fs:=λb hb=>by
 rcases I.ok.stk with e|⟨e,hf⟩
 ·rw[e]at hb;exact IC _ hb
 ·rw[e]at hb;unfold frs at hb;rw[IA,hf]at hb;exact hb
theorem Inv.stkFree(I:`h):∀b∈frs X.stack,H b=none:=λb hb=>by
 rcases List.mem_cons.mp (I.stkSub b hb)with e|hb
 ·rw[e];exact I.free
 ·obtain⟨_,o,ho,_⟩:=I.ok.funs.mem hb;exact I.base.free b o ho (I.ok.frf b hb) λz=>I.ok.exfs b z hb
theorem Inv.step{g':Array GenState}{t':Nat}{d':Drawn}{ch:au}(I:`h)
  (hch:∀b∈ch,(b∈X.ex\/X.s₀.heap.objs.size<=b)/\b≠X.env.locals/\(∀x c,X.env.cells.lookup x=some c->c≠b)/\∀p∈X.pn++pins,p.1≠b)
  (keep:∀b o,b≠X.env.locals->b∉X.fs->b∉ch->s.heap.get? b=some o->H b=none->h'.get? b=some o)
  (slot:∀b o,b≠X.env.locals->b∈X.fs->b∉ch->s.heap.get? b=some o->H b=none->∃sl,h'.get? b=some {o with slots:=sl}) (free:∀b o,b∉ch->s.heap.get? b=some o->H b=none->H' b=none)
  (there:∀b o,b∉ch->s.heap.get? b=some o->∃o',h'.get? b=some o')
  (tups:∀b xs,H b=some (.tup xs)->H' b=some (.tup xs)) (frzs:∀b o u,H b=some (.frz o u)->H' b=some (.frz o u)) (tbls:∀b ps,H b=some (.tbl ps)->∃more,H' b=some (.tbl (ps++more)))
  (ns:∀m,s.heap.Ns X.env.locals m->h'.Ns X.env.locals m) (hok:kN X.prog X.w H' h') (hg:AllBare g'):
  Inv X pins σ H' {s with heap:=h',gens:=g',drawn:=d',toks:=t'}:=by
 have neL:∀b o,X.s₀.heap.get? b=some o->b≠X.env.locals:=λb o e=>Iw (Ir (Lv e) I.ok.above);have neC:∀b o,X.s₀.heap.get? b=some o->b∉X.ex->b∉ch:=λb o e hx hb=>by
  rcases(hch b hb).1 with z|z
  ·exact hx z
  ·exact absurd (Ir (Lv e) z) (Iu _)
 have cellK:∀x c,X.env.cells.lookup x=some c->∀v,s.heap.IsCell c v->h'.IsCell c v:=λx c e v zq=>zq.elim λo zq=>zq.elim λho hd=>by
  have nch:c∉ch:=λz=>(hch c z).2.2.1 x c e rfl;by_cases hc:c∈X.fs
  ·obtain⟨sl,q⟩:=slot c o (I.cne x c e) hc nch ho (I.freeC x c e);exact⟨_,q,hd⟩
  ·exact⟨o,keep c o (I.cne x c e) hc nch ho (I.freeC x c e),hd⟩
 refine⟨I.ok,I.os,hg,⟨λb o e n hb hx=>?_,λb o e n hb hx=>?_,λb o e n hx=>?_,λb o e hx=>?_,λb xs e=>tups b xs (I.base.tups b xs e),λb o xs e=>frzs b o xs (I.base.frzs b o xs e),λb ps e=>?_⟩,?_,λx c e=>?_,?_,λx c e=>?_,λp hp=>?_,hok,I.len⟩
 ·exact keep b o (neL b o e) hb (neC b o e hx) (I.base.keep b o e n hb hx) (I.base.free b o e n hx)
 ·obtain⟨sl,e1⟩:=I.base.slot b o e n hb hx;obtain⟨sl',e2⟩:=slot b _ (neL b o e) hb (neC b o e hx) e1 (I.base.free b o e n hx);exact⟨sl',e2⟩
 ·obtain⟨o',e1⟩:=I.base.there b o e hx;exact free b o' (neC b o e hx) e1 (I.base.free b o e n hx)
 ·obtain⟨o',e1⟩:=I.base.there b o e hx;exact there b o' (neC b o e hx) e1
 ·obtain⟨m1,e1⟩:=I.base.tbls b ps e;obtain⟨m2,e2⟩:=tbls b _ e1;exact⟨m1++m2,by rw[e2,Array.append_assoc]⟩
 ·obtain⟨m,hn,hl⟩:=I.loc;refine⟨m,ns m hn,λi x v e1 e2 e3=>?_⟩;obtain⟨u,r,l⟩:=hl i x v e1 e2 e3;refine⟨u,r,?_⟩;rcases l with l|⟨k,c,e,z⟩
  ·exact .inl l
  ·exact .inr ⟨k,c,e,cellK x c e _ z⟩
 ·obtain⟨v,z⟩:=I.cell x c e;exact⟨v,cellK x c e v z⟩
 ·obtain⟨m,⟨o,_,_,ho,_⟩,_⟩:=I.loc;exact free _ o (λz=>(hch _ z).2.1 rfl) ho I.free
 ·obtain⟨v,o,ho,hd⟩:=I.cell x c e;exact free c o (λz=>(hch c z).2.2.1 x c e rfl) ho (I.freeC x c e)
 ·obtain⟨e,n,ne,nf,d⟩:=I.pin p hp;have nch:p.1∉ch:=λz=>(hch p.1 z).2.2.2 p hp rfl;exact⟨keep p.1 p.2 ne nf nch e n,free p.1 p.2 nch e n,ne,nf,d⟩
theorem Inv.un{t':Nat}(I:`h)(u:Un X.fs [] H H' s.heap h')(hok:kN X.prog X.w H' h'):Inv X pins σ H' {s with heap:=h',toks:=t'}:=by
 obtain⟨m,⟨o,es,ep,ho,r⟩,_⟩:=id I.loc;obtain⟨sl,hL⟩:=u.any ho I.free (by simp);exact I.step (g':=s.gens) (d':=s.drawn) (ch:=[]) (λ_ z=>nomatch z) (λb o _ hb _ e n=>u.keep b o e n hb (by simp)) (λb o _ hb _ e n=>u.slot b o e n hb (by simp)) (λb o _ e n=>u.free b o e n (by simp)) (λb o _ e=>u.there b o e (by simp)) u.tups u.frzs u.tbls (λm' hm=>by
  obtain⟨o',es',ep',ho',r'⟩:=hm;rw[ho]at ho';cases ho';exact⟨_,es',ep',hL,r'⟩) hok I.bare
theorem Inv.call{g':Array GenState}{t':Nat}{d':Drawn}{ch:au}(I:`h)(u:Un (frs X.stack) ch H H' s.heap h')(hok:kN X.prog X.w H' h')(hg:AllBare g')
  (hch:∀b∈ch,(b∈X.ex\/X.s₀.heap.objs.size<=b)/\b≠X.env.locals/\(∀x c,X.env.cells.lookup x=some c->c≠b)/\∀p∈X.pn++pins,p.1≠b):
  Inv X pins σ H' {s with heap:=h',gens:=g',drawn:=d',toks:=t'}:=by
 obtain⟨m,⟨o,es,ep,ho,r⟩,_⟩:=id I.loc;obtain⟨sl,hL⟩:=u.any ho I.free λz=>(hch _ z).2.1 rfl;exact I.step (ch:=ch) hch (λb o hL hb hc e n=>u.keep b o e n (λz=>(List.mem_cons.mp (I.stkSub b z)).elim hL hb) hc) (λb o _ _ hc e n=>u.any e n hc) (λb o hc e n=>u.free b o e n hc) (λb o hc e=>u.there b o e hc) u.tups u.frzs u.tbls (λm' hm=>by
  obtain⟨o',es',ep',ho',r'⟩:=hm;rw[ho]at ho';cases ho';exact⟨_,es',ep',hL,r'⟩) hok hg
theorem Inv.turned{t':Nat}{it:Ma}(I:`h)(k:∀b o,b≠it->s.heap.get? b=some o->h'.get? b=some o)(hn:H it=none)(hL:it≠X.env.locals)
  (h1:it∈X.ex\/X.s₀.heap.objs.size<=it) (h2:∀x c,X.env.cells.lookup x=some c->c≠it) (h3:∀p∈X.pn++pins,p.1≠it):Inv X pins σ H {s with heap:=h',toks:=t'}:=by
 have nit:∀b u,H b=some u->b≠it:=λb u e z=>by rw[z,hn]at e;cases e
 refine I.step (g':=s.gens) (d':=s.drawn) (ch:=[it]) (λb hb=>?_) (λb o _ _ hc e _=>k b o (λz=>hc (by simp[z])) e) (λb o _ _ hc e _=>⟨o.slots,k b o (λz=>hc (by simp[z])) e⟩) (λ_ _ _ _ n=>n)
  (λb o hc e=>⟨o,k b o (λz=>hc (by simp[z])) e⟩) (λ_ _ e=>e) (λ_ _ _ e=>e) (λb ps e=>⟨#[],by rw[e];simp⟩) (λm hm=>?_) (λb u e=>?_) I.bare
 ·have e:b=it:=by simpa using hb
  subst e;exact⟨h1,hL,h2,h3⟩
 ·obtain⟨o,es,ep,ho,r⟩:=hm;exact⟨o,es,ep,k _ o (Ne.symm hL) ho,r⟩
 ·refine(I.hok b u e).stay (λc v hc q=>k c v ?_ q) (λ_ q=>q) λ_ _ q=>q;rcases hc with z|z
  ·rw[z];exact nit b u e
  ·exact nit c _ z
theorem Inv.tok(I:`h)(t:Nat):Inv X pins σ H {s with toks:=t}:=I.un (h':=s.heap) (t':=t) Un.refl I.hok
theorem Inv.kept{t':Nat}(I:`h)(k:∀b u,s.heap.get? b=some u->h'.get? b=some u):Inv X pins σ H {s with heap:=h',toks:=t'}:=I.un (Un.kept k) (I.hok.kept k)
theorem Inv.laid{a:Ma}{o:HO}{t':Nat}(I:`h)(k:∀b u,s.heap.get? b=some u->h'.get? b=some u)(hp:s.heap.objs.size<=a)(new:a7 X.prog X.w (upd H a o) h' a o):
  Inv X pins σ (upd H a o) {s with heap:=h',toks:=t'}:=I.un (Un.laid k hp (I.hok.fresh hp)) (I.hok.laid k hp new)
theorem Inv.write{x e:Ma}{o:HO}{t':Nat}(I:`h)(mu:FQ (H x))(he:e=x\/H e=some (.own x))(k:∀b u,b≠e->s.heap.get? b=some u->h'.get? b=some u)(heo:∃u,h'.get? e=some u)
  (new:a7 X.prog X.w (upd H x o) h' x o):Inv X pins σ (upd H x o) {s with heap:=h',toks:=t'}:=I.un (Un.write mu he k heo) (I.hok.write mu he k heo new)
theorem Inv.pins_of{pins':aG}(I:`h)(h:∀p∈pins',s.heap.get? p.1=some p.2/\H p.1=none/\p.1≠X.env.locals/\p.1∉X.fs/\∀v,p.2.data≠.cell v):Inv X pins' σ H s:=
 ⟨I.ok,I.os,I.bare,I.base,I.loc,I.cell,I.free,I.freeC,λp hp=>(List.mem_append.mp hp).elim (λz=>I.pin p (IE _ z)) (h p),I.hok,I.len⟩
theorem pP{N:ay}(hN:N.Nodup){i j:Nat}{x:Str}(a:N[i]?=some x)(b:N[j]?=some x):i=j:=by
 obtain⟨h1,e1⟩:=List.getElem?_eq_some_iff.mp a;obtain⟨h2,e2⟩:=List.getElem?_eq_some_iff.mp b;exact(List.getElem_inj hN).mp (e1.trans e2.symm)
theorem m9{M:Mq}{A:Mo}{E:aD}{i:Nat}{x:Str}{v:V}{u:L8}{Q:Unit->cF}(I:`h)(hN:X.N.Nodup)(hi:X.N[i]?=some x)(hx:Loc X.env.scope x)(r:RelV v u)
  (h:∀s',Inv X pins (σ.set i (some v)) H s'->(∃a,Lx a s.heap s'.heap/\(a=X.env.locals\/X.env.cells.lookup x=some a))->Q () s') (hf:X.fn x=true\/X.env.scope.names.lookup x=some .local:=by first|exact .inl rfl|exact .inr rfl|assumption):Mr M A (storeName X.env x u) Q E s:=by
 obtain⟨m,hn,hl⟩:=id I.loc;have hcls:(X.env.scope.kind==.class||(X.env.scope.kind==.module&&X.env.locals !=X.env.globals))=false:=by rw[I.ok.kind];rfl
 have hiσ:i<σ.length:=by rw[I.len];exact(List.getElem?_eq_some_iff.mp hi).1
 have cne:=I.cne;have tracked:∀{a:Ma}{h':Mj},(∃o,s.heap.get? a=some o/\H a=none)->Lx a s.heap h'->kN X.prog X.w H h':=λ{a h'} ha hs b ob e=>by
  obtain⟨_,_,hfree⟩:=ha;refine(I.hok b ob e).stay (λc w' hc q=>(hs.2 c ?_).trans q) (λ_ q=>q) λ_ _ q=>q;rintro rfl;rcases hc with rfl|hc
  ·rw[hfree]at e;cases e
  ·rw[hfree]at hc;cases hc
 rcases hx with hk|hk
 ·refine wpAny_storeName_local hk hn (λh' hn' hs=>?_) hcls;obtain⟨oL,_,_,hoL,_⟩:=id hn;refine h _ ⟨I.ok,I.os,I.bare,⟨λb o e n hb hx=>?_,λb o e n hb hx=>?_,I.base.free,λb o e hx=>?_,I.base.tups,I.base.frzs,I.base.tbls⟩,⟨_,hn',λj y v' e1 e2 e3=>?_⟩,λy c e=>?_,I.free,I.freeC,λp hp=>?_,tracked ⟨oL,hoL,I.free⟩ hs,by simpa using I.len⟩ ⟨_,hs,.inl rfl⟩
  ·exact(hs.2 b (Iw (Ir (Lv e) I.ok.above))).trans (I.base.keep b o e n hb hx)
  ·obtain⟨sl,e1⟩:=I.base.slot b o e n hb hx;exact⟨sl,(hs.2 b (Iw (Ir (Lv e) I.ok.above))).trans e1⟩
  ·obtain⟨o',e1⟩:=I.base.there b o e hx;exact⟨o',(hs.2 b (Iw (Ir (Lv e) I.ok.above))).trans e1⟩
  ·by_cases hj:j=i
   ·subst hj;rw[hi]at e1;cases e1;rw[IG hiσ]at e2;cases e2;exact⟨u,r,.inl ⟨hk,by simp⟩⟩
   ·rw[IH (Ne.symm hj)]at e2;obtain⟨u',r',q⟩:=hl j y v' e1 e2 e3;refine⟨u',r',?_⟩;rcases q with⟨k,e⟩|⟨k,c,e,z⟩
    ·refine .inl ⟨k,?_⟩
     have:y≠x:=λe=>hj (pP hN e1 (e ▸ hi))
     simp[this,e]
    ·exact .inr ⟨k,c,e,z.sameBut hs (cne y c e)⟩
  ·obtain⟨w',z⟩:=I.cell y c e;exact⟨w',z.sameBut hs (cne y c e)⟩
  ·obtain⟨e,n,ne,nf,d⟩:=I.pin p hp;exact⟨(hs.2 p.1 ne).trans e,n,ne,nf,d⟩
 ·have hfn:X.fn x=true:=by
   rcases hf with z|z
   ·exact z
   ·rw[z]at hk;cases hk
  obtain⟨c,hc⟩:=I.ok.has x (.inl hk);obtain⟨w',z⟩:=I.cell x c hc;refine wpAny_storeName_cell I.ok.kind hk hc z (λh' hc' hs=>?_);obtain⟨oc,hoc,hocd⟩:=id z;refine h {s with heap:=h'} ⟨I.ok,I.os,I.bare,⟨λb o e n hb hx=>?_,λb o e n hb hx=>?_,I.base.free,λb o e hx=>?_,I.base.tups,I.base.frzs,I.base.tbls⟩,⟨m,hn.sameBut hs (Ne.symm (cne x c hc)),λj y v' e1 e2 e3=>?_⟩,λy c' e=>?_,I.free,I.freeC,λp hp=>?_,tracked ⟨oc,hoc,I.freeC x c hc⟩ hs,by simpa using I.len⟩ ⟨c,hs,.inr hc⟩
  ·exact(hs.2 b (Iw (Ir (Lv e) (I.ok.cab x c hfn hc)))).trans (I.base.keep b o e n hb hx)
  ·obtain⟨sl,e1⟩:=I.base.slot b o e n hb hx;exact⟨sl,(hs.2 b (Iw (Ir (Lv e) (I.ok.cab x c hfn hc)))).trans e1⟩
  ·obtain⟨o',e1⟩:=I.base.there b o e hx;exact⟨o',(hs.2 b (Iw (Ir (Lv e) (I.ok.cab x c hfn hc)))).trans e1⟩
  ·by_cases hj:j=i
   ·subst hj;rw[hi]at e1;cases e1;rw[IG hiσ]at e2;cases e2;exact⟨u,r,.inr ⟨.inl hk,c,hc,hc'⟩⟩
   ·rw[IH (Ne.symm hj)]at e2;obtain⟨u',r',q⟩:=hl j y v' e1 e2 e3;refine⟨u',r',?_⟩;rcases q with q|⟨k,c',e,z'⟩
    ·exact .inl q
    ·refine .inr ⟨k,c',e,z'.sameBut hs ?_⟩;rintro rfl;exact hj (pP hN e1 (I.ok.inj _ _ _ e hc ▸ hi))
  ·by_cases hcc:c'=c
   ·subst hcc;exact⟨_,hc'⟩
   ·obtain⟨w2,z2⟩:=I.cell y c' e;exact⟨w2,z2.sameBut hs hcc⟩
  ·obtain⟨e,n,ne,nf,d⟩:=I.pin p hp;refine⟨(hs.2 p.1 ?_).trans e,n,ne,nf,d⟩;intro q;rw[q,hoc]at e;have q':oc=p.2:=Option.some.inj e;exact d w' (by rw[<-q'];exact hocd)
theorem mG{M:Mq}{A:Mo}{E:aD}{i:Nat}{x:Str}{v:V}{u:L8}{Q:Unit->cF}(I:`h)(hN:X.N.Nodup)(hi:X.N[i]?=some x)(hx:Loc X.env.scope x)(r:RelV v u)
  (h:∀s',Inv X pins (σ.set i (some v)) H s'->Q () s') (hf:X.fn x=true\/X.env.scope.names.lookup x=some .local:=by first|exact .inl rfl|exact .inr rfl|assumption):Mr M A (storeName X.env x u) Q E s:=
 m9 I hN hi hx r (λs' I' _=>h s' I') hf
theorem Inv.call'{s':Mf}{ch:au}(I:`h)(ho:s'.os=s.os)(u:Un (frs X.stack) ch H H' s.heap s'.heap)(hok:kN X.prog X.w H' s'.heap)(hg:AllBare s'.gens)
  (hch:∀b∈ch,(b∈X.ex\/X.s₀.heap.objs.size<=b)/\b≠X.env.locals/\(∀x c,X.env.cells.lookup x=some c->c≠b)/\∀p∈X.pn++pins,p.1≠b):Inv X pins σ H' s':=by
 obtain⟨h',g',d',t',o'⟩:=s';have e:o'=s.os:=ho;subst e;exact I.call (g':=g') (t':=t') (d':=d') u hok hg hch
end
noncomputable abbrev XK:=L8->Option Ma->Hp->Prop
noncomputable abbrev St:=List (Option V)
noncomputable abbrev VK:=V->Hp->Prop
noncomputable abbrev TE:=St->Hp->VK->Prop
noncomputable abbrev TT:=St->Hp->(Bool->Hp->Prop)->Prop
noncomputable abbrev TA:=St->Hp->(aB->Hp->Prop)->Prop
structure Ends where
 nx:St->Hp->Prop
 rt:VK
 bk:St->Hp->Prop:=λ_ _=>False
 ct:St->Hp->Prop:=λ_ _=>False
noncomputable abbrev TS:=Ends->St->Hp->Prop
noncomputable def EP(X:Cx)(pins:aG)(σ:St)(Q:VK)(u:L8)(s':Mf):Prop:=∃v H',Inv X pins σ H' s'/\RelV v u/\Q v H'
noncomputable def TP(X:Cx)(pins:aG)(σ:St)(Q:Bool->Hp->Prop)(b:Bool)(s':Mf):Prop:=∃H',Inv X pins σ H' s'/\Q b H'
noncomputable def AP(X:Cx)(pins:aG)(σ:St)(Q:aB->Hp->Prop)(us:aF)(s':Mf):Prop:=∃vs H',Inv X pins σ H' s'/\Vals vs us/\Q vs H'
noncomputable def SP(X:Cx)(pins:aG)(D:Ends)(f:Flow)(s':Mf):Prop:=
 match f with
 |.next=>∃σ' H',Inv X pins σ' H' s'/\D.nx σ' H'
 |.brk=>∃σ' H',Inv X pins σ' H' s'/\D.bk σ' H'
 |.cont=>∃σ' H',Inv X pins σ' H' s'/\D.ct σ' H'
 |.ret u=>∃v σ' H',Inv X pins σ' H' s'/\RelV v u/\D.rt v H'
noncomputable def PE(X:Cx)(e:Mb)(t:TE):Prop:=
 ∀(pins:aG)(s:Mf)(σ:St)(H:Hp)(Q:VK),Inv X pins σ H s->t σ H Q->Mr `i X.A (eval e X.env) (EP X pins σ Q) X.xe s
noncomputable def PT(X:Cx)(e:Mb)(t:TT):Prop:=
 ∀(pins:aG)(s:Mf)(σ:St)(H:Hp)(Q:Bool->Hp->Prop),Inv X pins σ H s->t σ H Q->Mr `i X.A (isTrue e X.env (eval e X.env)) (TP X pins σ Q) X.xe s
noncomputable def PW(X:Cx)(e:Mb)(t:TT):Prop:=
 ∀(whole:Sem L8)(pins:aG)(s:Mf)(σ:St)(H:Hp)(Q:Bool->Hp->Prop),Inv X pins σ H s->t σ H Q->Mr `i X.A (isTrue e X.env whole) (TP X pins σ Q) X.xe s
theorem PW.pt{X:Cx}{e:Mb}{t:TT}(h:PW X e t):PT X e t:=h _
noncomputable def PA(X:Cx)(es:aX)(t:TA):Prop:=
 ∀(pos:Pos)(pins:aG)(s:Mf)(σ:St)(H:Hp)(Q:aB->Hp->Prop),Inv X pins σ H s->t σ H Q->Mr `i X.A (spliced (backTo pos (Ms es X.env))) (AP X pins σ Q) X.xe s
noncomputable def PS(X:Cx)(st:Md)(t:TS):Prop:=
 ∀(pins:aG)(s:Mf)(σ:St)(H:Hp)(D:Ends),Inv X pins σ H s->t D σ H->Mr `i X.A (exec st X.env) (SP X pins D) X.xe s
noncomputable def o4(X:Cx)(st:cq)(t:TS):Prop:=
 ∀(pins:aG)(s:Mf)(σ:St)(H:Hp)(D:Ends),Inv X pins σ H s->t D σ H->Mr `i X.A (execs st X.env) (SP X pins D) X.xe s
theorem cg{α:Type}{t:Sem α}{Q Q':α->cF}{M:Mq}{A:Mo}{E:aD}{s:Mf}(h:Mr M A t Q E s)(hQ:∀a s,Q a s->Q' a s):Mr M A t Q' E s:=Mt h hQ λ_ _ x=>x
section
variable{X:Cx}
noncomputable def xn(i:Nat):TE:=λσ H Q=>∃v,σ[i]?=some (some v)/\Q v H
noncomputable def tC(v:V):TE:=λ_ H Q=>Q v H
theorem Cm{i:Nat}{x:Str}{pos:Pos}(hN:X.N[i]?=some x)(hv:Dk X.env.scope x)(hd:(x==("__debug__":Str))=false:=by decide)(hcd:(x==("__classdict__":Str))=false:=by decide):PE X (.Name x pos) (xn i):=by
 intro pins s σ H Q I h;obtain⟨v,e,h⟩:=h;obtain⟨m,hn,hl⟩:=I.loc;obtain⟨u,r,l⟩:=hl i x v hN e hv;have fin:EP X pins σ Q u s:=⟨v,H,I,r,h⟩
 rcases l with⟨hk,hm⟩|⟨hk,c,hc,hcell⟩
 ·exact wpAny_Name (wpAny_loadName_local I.ok.kind hk hn hm fin) hd
 ·rcases hk with hk|hk
  ·exact wpAny_Name (wpAny_loadName_cell I.ok.kind hk hc hcell fin) hd
  ·exact wpAny_Name (wpAny_loadName_free I.ok.kind hk hc hcell fin hcd) hd
theorem Dl{i j pos}:PE X (.Constant (.int i) j pos) (tC (.int i)):=λ_ _ _ H _ I h=>wpAny_Constant_int ⟨.int i,H,I.tok _,⟨_,rfl⟩,h⟩
theorem Fw{b j pos}:PE X (.Constant (.bool b) j pos) (tC (.bl b)):=λ_ _ _ H _ I h=>Constant_bool ⟨.bl b,H,I,rfl,h⟩
theorem D7{j pos}:PE X (.Constant .none j pos) (tC .non):=λ_ _ _ H _ I h=>Constant_none ⟨.non,H,I,rfl,h⟩
theorem CD{x j pos}:PE X (.Constant (.str x) j pos) (tC (.str x)):=λ_ _ _ H _ I h=>Calls.Constant_str ⟨.str x,H,I.tok _,⟨_,rfl⟩,h⟩
noncomputable def Gl(X:Cx)(x:Str):Prop:=X.env.kindOf x=some .globalImplicit
theorem oS{E:aD}{pins:aG}{s:Mf}{σ:St}{H:Hp}{x:Str}{u:L8}{pos:Pos}{Q:aD}(I:`h)(hg:Gl X x)(hm:X.mg x=some u)(h:Q u s)
  (hd:(x==("__debug__":Str))=false:=by decide):Mr `i X.A (eval (.Name x pos) X.env) Q E s:=
 Calls.Name_function_global I.ok.kind hg (Calls.loadGlobal_global (by rw[I.ok.glob];exact I.mod.glob.keeps I.bk) hm h) hd
theorem o7{E:aD}{pins:aG}{s:Mf}{σ:St}{H:Hp}{x:Str}{u:L8}{pos:Pos}{Q:aD}(I:`h)(hg:Gl X x)(hm:X.mg x=none)(hv:Mm x=some u)(h:Q u s)
  (hn:x≠"__name__":=by decide) (hd:(x==("__debug__":Str))=false:=by decide):Mr `i X.A (eval (.Name x pos) X.env) Q E s:=by
 obtain⟨mb,h1,h2⟩:=I.mod.blt;exact Calls.Name_function_global I.ok.kind hg (Calls.loadGlobal_builtin (by rw[I.ok.glob];exact I.mod.glob.keeps I.bk) hm (by rw[I.ok.blt];exact h1.keeps I.bk) ((h2 x hn).trans hv) h) hd
theorem zF{x:Str}{v:V}{u:L8}{pos:Pos}(hg:Gl X x)(hm:X.mg x=none)(hv:Mm x=some u)(r:RelV v u)(hn:x≠"__name__":=by decide)(hd:(x==("__debug__":Str))=false:=by decide):PE X (.Name x pos) (tC v):=
 λ_ _ _ H _ I h=>o7 I hg hm hv ⟨v,H,I,r,h⟩ hn hd
variable{a b:Mb}{ta tb:TE}{pos:Pos}
variable{tA tB':TT}{rest:aX}
noncomputable def G1(t u:TT):TT:=λσ H Q=>t σ H λc H1=>if c=true then u σ H1 Q else Q false H1
noncomputable def HQ(t u:TT):TT:=λσ H Q=>t σ H λc H1=>if c=true then Q true H1 else u σ H1 Q
noncomputable def GI(t:TT):TT:=λσ H Q=>t σ H λc H1=>Q (!c) H1
theorem Ah(ha:PT X a tA):PW X (.BoolOp .And [a] pos) tA:=by
 intro wh pins s σ H Q I h;refine isTrue_and (cg (ha pins s σ H Q I h) λc s1 e=>?_);cases c with
 |true=>exact isTrue_and_nil e
 |false=>exact e
theorem CQ(ha:PT X a tA):PW X (.BoolOp .Or [a] pos) tA:=by
 intro wh pins s σ H Q I h;refine isTrue_or (cg (ha pins s σ H Q I h) λc s1 e=>?_);cases c with
 |false=>exact isTrue_or_nil e
 |true=>exact e
theorem Dj(ha:PT X a tA)(hb:PW X (.BoolOp .And (b::rest) pos) tB'):PW X (.BoolOp .And (a::b::rest) pos) (G1 tA tB'):=by
 intro wh pins s σ H Q I h;refine isTrue_and (cg (ha pins s σ H _ I h) λc s1 zq=>zq.elim λH1 zq=>zq.elim λI1 q1=>?_);cases c with
 |true=>exact hb wh pins s1 σ H1 Q I1 q1
 |false=>exact⟨H1,I1,q1⟩
theorem EV(ha:PT X a tA)(hb:PW X (.BoolOp .Or (b::rest) pos) tB'):PW X (.BoolOp .Or (a::b::rest) pos) (HQ tA tB'):=by
 intro wh pins s σ H Q I h;refine isTrue_or (cg (ha pins s σ H _ I h) λc s1 zq=>zq.elim λH1 zq=>zq.elim λI1 q1=>?_);cases c with
 |true=>exact⟨H1,I1,q1⟩
 |false=>exact hb wh pins s1 σ H1 Q I1 q1
theorem D8(ha:PT X a tA):PT X (.UnaryOp .Not a pos) (GI tA):=by
 intro pins s σ H Q I h;exact isTrue_not (ha pins s σ H (λc H1=>Q (!c) H1) I h)
end
noncomputable def jG(K:KZ)(H:Hp)(a:Ma)(xs:aB):Prop:=
 Rd H a (.lst xs) \/
  ∃(o:Obj)(its:Array L8)(n:Nat),K.lookup a=some o/\o.cls=.type "list"/\o.dict=none/\o.data=.seq its n/\its.size<=Mk/\Vals xs its.toList
noncomputable def mK(K:KZ)(H:Hp)(a:Ma)(xs:aB):Prop:=
 Rd H a (.tup xs) \/
  ∃(o:Obj)(its:Array L8)(n:Nat),K.lookup a=some o/\o.cls=.type "tuple"/\o.data=.seq its n/\its.size<=Mk/\Vals xs its.toList
noncomputable def GV:L8->Option V
 |.none=>some .non
 |.bool b=>some (.bl b)
 |.int i _=>some (.int i)
 |.str x _=>some (.str x)
 |.bytes b _=>some (.byt b)
 |.float b _=>some (.flt b)
 |.ref a=>some (.ref a)
 |.type n=>some (.ty n)
 |_=>none
theorem RelV.abs{x:V}{u:L8}(r:RelV x u):GV u=some x:=by
 cases x with
 |non=>cases r;rfl
 |bl _=>cases r;rfl
 |int _=>obtain⟨t,rfl⟩:=r;rfl
 |str _=>obtain⟨t,rfl⟩:=r;rfl
 |byt _=>obtain⟨t,rfl⟩:=r;rfl
 |flt _=>obtain⟨t,rfl⟩:=r;rfl
 |ref _=>cases r;rfl
 |ty _=>cases r;rfl
theorem RelV.inj{x y:V}{u:L8}(r:RelV x u)(q:RelV y u):x=y:=Option.some.inj (r.abs.symm.trans q.abs)
theorem Vals.inj{xs ys:aB}{us:aF}(h:Vals xs us)(h':Vals ys us):xs=ys:=by
 induction h generalizing ys with
 |nil=>cases h';rfl
 |cons r _ ih=>
  cases h' with|cons r' t'=>
  rw[RelV.inj r r',ih t']
section
variable{X:Cx}{pins:aG}{σ:St}{H:Hp}{s:Mf}{a:Ma}{xs ys:aB}
theorem jG.of{K:KZ}(h:H a=some (.lst xs)):jG K H a xs:=.inl (.inl h)
theorem mK.of{K:KZ}(h:H a=some (.tup xs)):mK K H a xs:=.inl (.inl h)
theorem Inv.list(I:`h)(h:jG X.K H a xs):∃its:aF,Vals xs its/\PlainL s.heap a its.toArray/\xs.length<=Mk:=by
 rcases h with h|⟨o,its,n,hk,hc,hd,hs,hz,r⟩
 ·obtain⟨z,its,n,r,e⟩:=h.ok I.hok;exact⟨its,r,⟨_,n,e,rfl,rfl,rfl⟩,z⟩
 ·refine⟨its.toList,r,⟨o,n,I.kIn a o hk,hc,hd,by simpa using hs⟩,?_⟩;have e:=r.length;simp only[Array.length_toList]at e;omega
theorem Inv.tuple(I:`h)(h:mK X.K H a xs):∃its:aF,Vals xs its/\IsTup s.heap a its.toArray/\xs.length<=Mk:=by
 rcases h with h|⟨o,its,n,hk,hc,hs,hz,r⟩
 ·obtain⟨z,its,r,p⟩:=h.ok I.hok;exact⟨its,r,p,z⟩
 ·refine⟨its.toList,r,⟨o,I.kIn a o hk,hc,n,by simpa using hs⟩,?_⟩;have e:=r.length;simp only[Array.length_toList]at e;omega
theorem Inv.list_inj(I:`h)(h:jG X.K H a xs)(h':jG X.K H a ys):xs=ys:=by
 obtain⟨its,r,⟨o,n,e,_,_,d⟩,_⟩:=I.list h;obtain⟨its',r',⟨o',n',e',_,_,d'⟩,_⟩:=I.list h';rw[e]at e';cases e';rw[d]at d';injection d' with d1 _
 have:its=its':=by simpa using congrArg Array.toList d1
 subst this;exact r.inj r'
theorem Inv.tuple_inj(I:`h)(h:mK X.K H a xs)(h':mK X.K H a ys):xs=ys:=by
 obtain⟨its,r,⟨o,e,_,n,d⟩,_⟩:=I.tuple h;obtain⟨its',r',⟨o',e',_,n',d'⟩,_⟩:=I.tuple h';rw[e]at e';cases e';rw[d]at d';injection d' with d1 _
 have:its=its':=by simpa using congrArg Array.toList d1
 subst this;exact r.inj r'
end
noncomputable abbrev Cx.wish(X:Cx)(E:aD):Cx:={X with xe:=E}
noncomputable abbrev Cx.nox(X:Cx):Cx:=X.wish λ_ _=>False
theorem Cx.Ok.wish{X:Cx}(ok:X.Ok)(E:aD):(X.wish E).Ok:=
 ⟨ok.mod,ok.kind,ok.glob,ok.blt,ok.above,ok.inj,ok.has,ok.cab,ok.hd,ok.frames,ok.stk,ok.exf,ok.bs,ok.bsz,ok.noex,ok.exfs,ok.funs,ok.frf⟩
theorem Cx.Ok.unwish{X:Cx}{E:aD}(ok:(X.wish E).Ok):X.Ok:=
 ⟨ok.mod,ok.kind,ok.glob,ok.blt,ok.above,ok.inj,ok.has,ok.cab,ok.hd,ok.frames,ok.stk,ok.exf,ok.bs,ok.bsz,ok.noex,ok.exfs,ok.funs,ok.frf⟩
section
variable{X:Cx}{pins:aG}{σ:St}{H:Hp}{s:Mf}{E:aD}
theorem Inv.wish(I:`h)(E:aD):Inv (X.wish E) pins σ H s:=⟨I.ok.wish E,I.os,I.bare,I.base,I.loc,I.cell,I.free,I.freeC,I.pin,I.hok,I.len⟩
theorem Inv.unwish(I:Inv (X.wish E) pins σ H s):Inv X pins σ H s:=⟨I.ok.unwish,I.os,I.bare,I.base,I.loc,I.cell,I.free,I.freeC,I.pin,I.hok,I.len⟩
theorem SP.unwish{D:Ends}{f:Flow}{s':Mf}(h:SP (X.wish E) pins D f s'):SP X pins D f s':=by
 cases f with
 |next=>obtain⟨σ',H',I,q⟩:=h;exact⟨σ',H',I.unwish,q⟩
 |brk=>obtain⟨σ',H',I,q⟩:=h;exact⟨σ',H',I.unwish,q⟩
 |cont=>obtain⟨σ',H',I,q⟩:=h;exact⟨σ',H',I.unwish,q⟩
 |ret u=>obtain⟨v,σ',H',I,r,q⟩:=h;exact⟨v,σ',H',I.unwish,r,q⟩
theorem o4.nox{st:cq}{t:TS}(h:o4 X.nox st t):o4 X st t:=λpins s σ H D I hw=>
 Mt (h pins s σ H D (I.wish _) hw) (λ_ _ q=>q.unwish) λ_ _ z=>False.elim z
end
section
variable{X:Cx}{st:Md}{rest:cq}{t u:TS}{e:Mb}{te:TE}{pos:Pos}
noncomputable def wO:TS:=λD σ H=>D.nx σ H
noncomputable def GA(t u:TS):TS:=λD σ H=>t {D with nx:=u D} σ H
theorem uo:o4 X [] wO:=λ_ _ σ H _ I h=>Mu ⟨σ,H,I,h⟩
theorem wH(h1:PS X st t)(h2:o4 X rest u):o4 X (st::rest) (GA t u):=by
 intro pins s σ H D I h;refine wpAny_execs_cons (cg (h1 pins s σ H {D with nx:=u D} I h) λf s1 q=>?_);cases f with
 |next=>
  obtain⟨σ',H',I',q⟩:=q;exact h2 pins s1 σ' H' D I' q
 |ret v=>exact q
 |brk=>exact q
 |cont=>exact q
theorem tD(h1:PS X st t):o4 X [st] t:=by
 intro pins s σ H D I h;refine wpAny_execs_cons (cg (h1 pins s σ H D I h) λf s1 q=>?_);cases f with
 |next=>exact Mu q
 |ret v=>exact q
 |brk=>exact q
 |cont=>exact q
theorem zM:PS X (.Pass pos) wO:=λ_ _ σ H _ I h=>wpAny_Pass ⟨σ,H,I,h⟩
theorem Inv.quiet{pins:aG}{σ:St}{H:Hp}{s:Mf}(I:`h):interactive X.env=false:=by simp[interactive,I.ok.kind]
theorem CF{x j pos pos'}:PS X (.Expr (.Constant (.str x) j pos) pos') wO:=λ_ s σ H _ I h=>wpAny_Expr (Calls.Constant_str (show SP X _ _ .next {s with toks:=s.toks+1}from⟨σ,H,I.tok _,h⟩)) I.quiet
noncomputable def EQ(te:TE):TS:=λD σ H=>te σ H λ_ H1=>D.nx σ H1
theorem tq(he:PE X e te)(hs:swapsWith e none pos.line X.env=pure false:=by rfl):PS X (.Expr e pos) (EQ te):=by
 intro pins s σ H D I h;exact wpAny_Expr_any (cg (he pins s σ H _ I h) λv s1 zq=>zq.elim λx zq=>zq.elim λH1 zq=>zq.elim λI1 zq=>zq.elim λr1 q1=>⟨σ,H1,I1,q1⟩) I.quiet hs
noncomputable def G3(te:TE):TS:=λD σ H=>te σ H D.rt
theorem Cb(he:PE X e te):PS X (.Return (some e) pos) (G3 te):=by
 intro pins s σ H D I h;exact wpAny_Return_some (cg (he pins s σ H _ I h) λv s1 zq=>zq.elim λx zq=>zq.elim λH1 zq=>zq.elim λI1 zq=>zq.elim λr1 q1=>⟨x,σ,H1,I1,r1,q1⟩)
noncomputable def GK(c:TT)(t u:TS):TS:=λD σ H=>c σ H λb H1=>if b=true then t D σ H1 else u D σ H1
theorem Fg{c:Mb}{a b:cq}{tc:TT}(hc:PT X c tc)(ha:o4 X a t)(hb:o4 X b u):PS X (.If c a b pos) (GK tc t u):=by
 intro pins s σ H D I h;refine wpAny_If (cg (hc pins s σ H _ I h) λd s1 zq=>zq.elim λH1 zq=>zq.elim λI1 q1=>?_);cases d with
 |true=>exact ha pins s1 σ H1 D I1 q1
 |false=>exact hb pins s1 σ H1 D I1 q1
end
noncomputable abbrev TG:=V->St->Hp->(St->Hp->Prop)->Prop
noncomputable abbrev BL:=List V->St->Hp->(St->Hp->Prop)->Prop
noncomputable def PG(X:Cx)(target:Mb)(t:TG):Prop:=
 ∀(pins:aG)(s:Mf)(σ:St)(H:Hp)(v:V)(u:L8)(Q:St->Hp->Prop),Inv X pins σ H s->RelV v u->t v σ H Q->
  Mr `i X.A (assign target X.env u) (λ_ s'=>∃σ' H',Inv X pins σ' H' s'/\Q σ' H') X.xe s
noncomputable def Ey(X:Cx)(ts:aX)(t:BL):Prop:=
 ∀(pins:aG)(s:Mf)(σ:St)(H:Hp)(vs:aB)(us:aF)(Q:St->Hp->Prop),Inv X pins σ H s->Vals vs us->t vs σ H Q->
  Mr `i X.A (assignInOrder ((assignEach ts X.env).map (·.2)) us) (λ_ s'=>∃σ' H',Inv X pins σ' H' s'/\Q σ' H') X.xe s
section
variable{X:Cx}{pos:Pos}
noncomputable def n9(i:Nat):TG:=λv σ H Q=>Q (σ.set i (some v)) H
theorem zL{i:Nat}{x:Str}(hN:X.N.Nodup)(hi:X.N[i]?=some x)(hx:Loc X.env.scope x)(hf:X.fn x=true\/X.env.scope.names.lookup x=some .local:=by first|exact .inl rfl|exact .inr rfl|assumption):PG X (.Name x pos) (n9 i):=by
 intro pins s σ H v u Q I r h;exact wpAny_assign_Name (mG I hN hi hx r (λs' I'=>⟨_,H,I',h⟩) hf)
noncomputable def GQ:BL:=λvs σ H Q=>vs=[]/\Q σ H
noncomputable def E8(t:TG)(u:BL):BL:=λvs σ H Q=>∃v r,vs=v::r/\t v σ H λσ' H'=>u r σ' H' Q
theorem zt:Ey X [] GQ:=by
 intro pins s σ H vs us Q I r h;obtain⟨e,h⟩:=h;subst e;cases r;exact assignInOrder_nil ⟨σ,H,I,h⟩
theorem yh{e:Mb}{es:aX}{t:TG}{u:BL}(h1:PG X e t)(h2:Ey X es u)
  (hs:(assignEach (e::es) X.env).map (·.2)=assign e X.env::(assignEach es X.env).map (·.2):=by rfl):Ey X (e::es) (E8 t u):=by
 intro pins s σ H vs us Q I r h;obtain⟨v,vr,e1,h⟩:=h;subst e1;cases r with
 |cons r rr=>
  rw[hs];refine assignInOrder_cons (cg (h1 pins s σ H _ _ _ I r h) λ_ s1 zq=>zq.elim λσ1 zq=>zq.elim λH1 zq=>zq.elim λI1 q1=>?_);exact h2 pins s1 σ1 H1 _ _ Q I1 rr q1
noncomputable def Gy(K:KZ)(n:Nat)(t:BL):TG:=λv σ H Q=>∃a xs,v=.ref a/\mK K H a xs/\xs.length=n/\t xs σ H Q
theorem Cz{es:aX}{k:Nat}{t:BL}{n:Nat}(hc:X.calm=true)(h:Ey X es t)
  (hn:(assignEach es X.env).length=n:=by rfl) (hst:(assignEach es X.env).findIdx? (·.1)=none:=by rfl):PG X (.Tuple es k pos) (Gy X.K n t):=by
 intro pins s σ H v u Q I r hw;obtain⟨a,xs,e1,hq,hl,hw⟩:=hw;subst e1;cases r;obtain⟨its,rv,ht,hz⟩:=I.tuple hq;refine assign_Tuple_tuple (I.ok.hd hc) ht (by simp[hn,<-hl,rv.length]) hst λh' hx=>?_;have I1:Inv X pins σ H {s with heap:=h'}:=I.kept (t':=s.toks) λb o e=>hx b o (Iw (Lv e)) e;exact h pins _ σ H xs _ Q I1 (by simpa using rv) hw
noncomputable def wG(te:TE)(g:TG):TS:=λD σ H=>te σ H λx H1=>g x σ H1 D.nx
theorem DR{tg e:Mb}{te:TE}{g:TG}(he:PE X e te)(hg:PG X tg g)(hs:swapsWithSole [tg] e pos.line X.env=pure false:=by rfl)(hw:swappedStores [tg] e X.env=pure none:=by rfl)
  (h1:(assignEach [tg] X.env).map (·.2)=[assign tg X.env]:=by rfl):PS X (.Assign [tg] e pos) (wG te g):=by
 intro pins s σ H D I h;refine wpAny_Assign_stores (cg (he pins s σ H _ I h) λv s1 zq=>zq.elim λx zq=>zq.elim λH1 zq=>zq.elim λI1 zq=>zq.elim λr1 q1=>?_) hs hw;rw[h1];exact cg (hg pins s1 σ H1 x v _ I1 r1 q1) λ_ s2 q=>q
theorem yd{i:Nat}{x:Str}{e:Mb}{te:TE}{pos':Pos}(hN:X.N.Nodup)(hi:X.N[i]?=some x)(hx:Loc X.env.scope x)(he:PE X e te)(hs:swapsWith e (some (.Name x pos')) pos.line X.env=pure false:=by rfl)(hf:X.fn x=true\/X.env.scope.names.lookup x=some .local:=by first|exact .inl rfl|exact .inr rfl|assumption):
  PS X (.Assign [.Name x pos'] e pos) (wG te (n9 i)):=by
 intro pins s σ H D I h;refine wpAny_Assign_Name (cg (he pins s σ H _ I h) λv s1 zq=>zq.elim λy zq=>zq.elim λH1 zq=>zq.elim λI1 zq=>zq.elim λr1 q1=>?_) hs;exact mG I1 hN hi hx r1 (λs2 I2=>⟨_,H1,I2,q1⟩) hf
end
section
variable{X:Cx}{pos:Pos}
noncomputable def DQ(c:TT)(tb:TS):TS:=λD σ H=>∃W:Nat->St->Hp->Prop,(∃m,W m σ H)/\∀m σ H,W m σ H->
 c σ H λb H1=>if b=true then∃N:St->Hp->Prop,(∀σ' H',N σ' H'->∃m',m'<m/\W m' σ' H')/\tb {D with nx:=N,ct:=N,bk:=D.nx} σ H1 else D.nx σ H1
theorem yW{c:Mb}{body:cq}{tc:TT}{tb:TS}(hp:Mv `i X.A X.env X.xe)(hc:PT X c tc)(hb:o4 X body tb):PS X (.While c body [] pos) (DQ tc tb):=by
 intro pins s σ H D I h;obtain⟨W,⟨m0,w0⟩,turn⟩:=h;refine wpAny_While (codeAny_whileLoop (λn s'=>∃σ' H',Inv X pins σ' H' s'/\W n σ' H') ?_ m0 ⟨σ,H,I,w0⟩);rintro n s1 ⟨σ1,H1,I1,w1⟩;refine Mw hp (cg (hc pins s1 σ1 H1 _ I1 (turn n σ1 H1 w1)) λb s2 zq=>zq.elim λH2 zq=>zq.elim λI2 q2=>?_);cases b with
 |true=>
  obtain⟨N,hN,q2⟩:=q2;rw[if_pos rfl];refine Mw hp (cg (hb pins s2 σ1 H2 _ I2 q2) λf s3 q3=>?_);cases f with
  |next=>
   obtain⟨σ3,H3,I3,n3⟩:=q3;obtain⟨m',hm,w3⟩:=hN σ3 H3 n3;exact⟨m',hm,σ3,H3,I3,w3⟩
  |cont=>
   obtain⟨σ3,H3,I3,n3⟩:=q3;obtain⟨m',hm,w3⟩:=hN σ3 H3 n3;exact⟨m',hm,σ3,H3,I3,w3⟩
  |brk=>exact q3
  |ret v=>exact q3
 |false=>
  rw[if_neg II];exact Mu ⟨σ1,H2,I2,q2⟩
end
structure It where
 go:Nat->Hp->Prop
 yld:Nat->Hp->V->Hp->Prop
 stop:Nat->Hp->Prop
noncomputable def oD(X:Cx)(pins:aG)(H:Hp)(b:Ma):Prop:=
 H b=none/\b≠X.env.locals/\b∉X.fs/\(b∈X.ex\/X.s₀.heap.objs.size<=b)/\(∀x c,X.env.cells.lookup x=some c->c≠b)/\∀p∈X.pn++pins,p.1≠b
theorem Inv.fpOk{X:Cx}{pins:aG}{σ:St}{H H':Hp}{s:Mf}{b:Ma}(I:`h)(hb:s.heap.objs.size<=b)(hn:H' b=none):oD X pins H' b:=by
 refine⟨hn,Nat.ne_of_gt (Ir I.lt hb),I.nofs hb,.inr (Iy I.sz hb),λx c e z=>?_,λp hp z=>?_⟩
 ·obtain⟨v,q⟩:=I.cell x c e;exact absurd (Ir q.lt (by rw[z];exact hb)) (Iu _)
 ·exact absurd (Ir (Lv (I.pin p hp).1) (by rw[z];exact hb)) (Iu _)
structure Turn(P:Mh)(w:Mg)(K:KZ)(tg:Mb)(J:It)(fp:au)(it:Ma)(tn:Nat->Mj->Prop):Prop where
 mem:it∈fp
 obj:∀i h,tn i h->∀b∈fp,∃o,h.get? b=some o/\∀v,o.data≠.cell v
 keep:∀i h h',tn i h->(∀b∈fp,∀o,h.get? b=some o->h'.get? b=some o)->tn i h'
 item:∀(X:Cx),X.prog=P->X.w=w->X.K=K->X.calm=true->∀(i:Nat)(pins:aG)(s:Mf)(σ:St)(H:Hp)(E:aD),Inv X pins σ H s->(∀b∈fp,oD X pins H b)->tn i s.heap->J.go i H->
  Mr (model P w) X.A (pyNext (.ref it)) (λr s1=>∃u,r=some u/\
   Mr (model P w) X.A (letOwnedTupleGo tg (.ref it) u) (λ_ s2=>∃x H',Inv X pins σ H' s2/\RelV x u/\J.yld i H x H'/\tn (i+1) s2.heap/\∀b∈fp,H' b=none) E s1) E s
 done:∀(X:Cx),X.prog=P->X.w=w->X.K=K->X.calm=true->∀(i:Nat)(pins:aG)(s:Mf)(σ:St)(H:Hp)(E:aD),Inv X pins σ H s->(∀b∈fp,oD X pins H b)->tn i s.heap->J.stop i H->
  Mr (model P w) X.A (pyNext (.ref it)) (λr s1=>r=none/\Inv X pins σ H s1) E s
 self:∀(A:Mo)(i:Nat)(s:Mf)(Q:aD)(E:aD),tn i s.heap->Q (.ref it) s->Mr (model P w) A (pyIter (.ref it)) Q E s
noncomputable abbrev TI:=St->Hp->(It->Hp->Prop)->Prop
noncomputable def PIE(X:Cx)(pins:aG)(σ:St)(tg:Mb)(R:It->Hp->Prop)(itv:L8)(s2:Mf):Prop:=
 ∃(it:Ma)(fp:au)(tn:Nat->Mj->Prop)(J:It)(H':Hp),itv=.ref it/\Inv X pins σ H' s2/\Turn X.prog X.w X.K tg J fp it tn/\tn 0 s2.heap/\(∀b∈fp,oD X pins H' b)/\R J H'
noncomputable def PI(X:Cx)(tg iter:Mb)(wi:TI):Prop:=
 ∀(pins:aG)(s:Mf)(σ:St)(H:Hp)(R:It->Hp->Prop),Inv X pins σ H s->wi σ H R->
  Mr `i X.A (eval iter X.env) (λv s1=>Mr `i X.A (pyIter v) (PIE X pins σ tg R) X.xe s1) X.xe s
theorem sU{M:Mq}{A:Mo}{E:aD}{s:Mf}{tg:Mb}{it:Ma}{u:L8}{o:Obj}{n:String}{vs:Array L8}{Q:Unit->cF}(ho:s.heap.get? it=some o)(hc:o.cls=.type n)(hd:o.data=.fields vs)
    (hn:["enumerate","zip","dict_itemiterator","dict_reverseitemiterator","odict_iterator","itertools.zip_longest","itertools.pairwise"].contains n=false) (hQ:Q () s):Mr M A (letOwnedTupleGo tg (.ref it) u) Q E s:=by
  unfold letOwnedTupleGo;cases tg<;>first
    |exact Mx hQ
    | (cases u <;> first
        |exact Mx hQ
        | (refine My (wpAny_load ho ?_)
           rw[hc,hd];show Mr M A (if(["enumerate","zip","dict_itemiterator","dict_reverseitemiterator","odict_iterator","itertools.zip_longest","itertools.pairwise"].contains n&&vs[0]?==some (rawInt _))=true then _ else _) Q E s;rw[if_neg (by intro h;rw[hn,Bool.false_and]at h;cases h)];exact Mx hQ))
noncomputable def Gv(K:KZ)(a:Ma):It:=
 ⟨λi H=>∃xs x,jG K H a xs/\xs[i]?=some x,λi H x H'=>H'=H/\∀xs,jG K H a xs->xs[i]?=some x,λi H=>∃xs,jG K H a xs/\xs.length<=i⟩
noncomputable def Hm(K:KZ)(a:Ma):It:=
 ⟨λi H=>∃xs x,mK K H a xs/\xs[i]?=some x,λi H x H'=>H'=H/\∀xs,mK K H a xs->xs[i]?=some x,λi H=>∃xs,mK K H a xs/\xs.length<=i⟩
noncomputable def F3(lo:Int)(n:Nat):It:=⟨λi _=>i<n,λi H x H'=>H'=H/\x=.int (lo+i),λi _=>n<=i⟩
theorem vG{P:Mh}{w:Mg}{K:KZ}{tg:Mb}(a it:Ma):Turn P w K tg (Gv K a) [it] it (λi h=>h.IsListIter it a i)where
 mem:=by simp
 obj:=λi h st b hb=>by
  have e:b=it:=by simpa using hb
  subst e;obtain⟨o,e,c,d⟩:=st;exact⟨o,e,λv z=>by rw[d]at z;cases z⟩
 keep:=λi h h' st k=>st.at λo e=>k it (by simp) o e
 item:=by
  intro X hP hw hK hc i pins s σ H E I hf st hg;subst hP hw hK;obtain⟨xs,x,hq,hx⟩:=hg;obtain⟨its,rv,p,hz⟩:=I.list hq;obtain⟨u,hu,ru⟩:=rv.get hx;obtain⟨f0,f1,f2,f3,f4,f5⟩:=hf it (by simp);refine wpAny_pyNext_list_item st p.isList (x:=u) (by simpa using hu) λh' st' sb=>?_;have I1:Inv X pins σ H {s with heap:=h'}:=I.turned (t':=s.toks) (λb o hb e=>(sb.2 b hb).trans e) f0 f1 f3 f4 f5;obtain⟨o,e,c,d⟩:=id st';exact⟨u,rfl,sU (s:={s with heap:=h'}) e c d (by decide) ⟨x,H,I1,ru,⟨rfl,λys hy=>by rw[I.list_inj hy hq];exact hx⟩,st',λb hb=>(hf b hb).1⟩⟩
 done:=by
  intro X hP hw hK hc i pins s σ H E I hf st hg;subst hP hw hK;obtain⟨xs,hq,hx⟩:=hg;obtain⟨its,rv,p,hz⟩:=I.list hq;obtain⟨f0,f1,f2,f3,f4,f5⟩:=hf it (by simp);have hl:=rv.length;exact wpAny_pyNext_list_end (I.ok.hd hc) st p.isList (by simp;omega) λh' eb=>⟨rfl,I.turned (t':=s.toks) (λb o hb e=>eb b o hb e) f0 f1 f3 f4 f5⟩
 self:=λ_ _ _ _ _ st h=>wpAny_pyIter_listiter st h
theorem rm{P:Mh}{w:Mg}{K:KZ}{tg:Mb}(a it:Ma):Turn P w K tg (Hm K a) [it] it (λi h=>h.IsTupleIter it a i)where
 mem:=by simp
 obj:=λi h st b hb=>by
  have e:b=it:=by simpa using hb
  subst e;obtain⟨o,e,c,d⟩:=st;exact⟨o,e,λv z=>by rw[d]at z;cases z⟩
 keep:=λi h h' st k=>st.at λo e=>k it (by simp) o e
 item:=by
  intro X hP hw hK hc i pins s σ H E I hf st hg;subst hP hw hK;obtain⟨xs,x,hq,hx⟩:=hg;obtain⟨its,rv,p,hz⟩:=I.tuple hq;obtain⟨u,hu,ru⟩:=rv.get hx;obtain⟨f0,f1,f2,f3,f4,f5⟩:=hf it (by simp);refine wpAny_pyNext_tuple_item st (show s.heap.IsTuple a its.toArray from p) (x:=u) (by simpa using hu) λh' st' sb=>?_;have I1:Inv X pins σ H {s with heap:=h'}:=I.turned (t':=s.toks) (λb o hb e=>(sb.2 b hb).trans e) f0 f1 f3 f4 f5;obtain⟨o,e,c,d⟩:=id st';exact⟨u,rfl,sU (s:={s with heap:=h'}) e c d (by decide) ⟨x,H,I1,ru,⟨rfl,λys hy=>by rw[I.tuple_inj hy hq];exact hx⟩,st',λb hb=>(hf b hb).1⟩⟩
 done:=by
  intro X hP hw hK hc i pins s σ H E I hf st hg;subst hP hw hK;obtain⟨xs,hq,hx⟩:=hg;obtain⟨its,rv,p,hz⟩:=I.tuple hq;obtain⟨f0,f1,f2,f3,f4,f5⟩:=hf it (by simp);have hl:=rv.length;exact wpAny_pyNext_tuple_end (I.ok.hd hc) st (show s.heap.IsTuple a its.toArray from p) (by simp;omega) λh' eb=>⟨rfl,I.turned (t':=s.toks) (λb o hb e=>eb b o hb e) f0 f1 f3 f4 f5⟩
 self:=λ_ _ _ _ _ st h=>wpAny_pyIter_tupleiter st h
theorem rZ{P:Mh}{w:Mg}{K:KZ}{tg:Mb}(it:Ma)(lo:Int)(n:Nat):Turn P w K tg (F3 lo n) [it] it (λi h=>IsRangeIter h it (lo+(i:Nat)*1) ((n:Int)-(i:Nat)) 1)where
 mem:=by simp
 obj:=λi h st b hb=>by
  have e:b=it:=by simpa using hb
  subst e;exact⟨_,st,λv z=>by
   have z':Data.fields _=Data.cell v:=z;cases z'⟩
 keep:=λi h h' st k=>k it (by simp) _ st
 item:=by
  intro X hP hw hK hc i pins s σ H E I hf st hg;subst hP hw hK;obtain⟨f0,f1,f2,f3,f4,f5⟩:=hf it (by simp);have W:=Walks.range (prog:=X.prog) (w:=X.w) (I.ok.hd hc) it lo 1 n;refine W.item i s _ _ hg st λv h' tk hv st' kk=>?_;obtain⟨t,rfl⟩:=hv;have I1:Inv X pins σ H {s with heap:=h',toks:=tk}:=I.turned (λb o hb e=>kk b o (by simpa using hb) e) f0 f1 f3 f4 f5;refine⟨_,rfl,sU (s:={s with heap:=h',toks:=tk}) (n:="range_iterator") st' rfl rfl (by decide) ⟨.int (lo+i),H,I1,⟨t,?_⟩,⟨rfl,rfl⟩,st',λb hb=>(hf b hb).1⟩⟩;rw[Int.mul_one]
 done:=by
  intro X hP hw hK hc i pins s σ H E I hf st hg;subst hP hw hK;obtain⟨f0,f1,f2,f3,f4,f5⟩:=hf it (by simp);exact wpAny_pyNext_range_end (I.ok.hd hc) st (by have:n<=i:=hg;omega) λh' eb=>⟨rfl,I.turned (t':=s.toks) (λb o hb e=>eb b o hb e) f0 f1 f3 f4 f5⟩
 self:=λ_ _ _ _ _ st h=>wpAny_pyIter_rangeiter st h
section
variable{X:Cx}{tg:Mb}
noncomputable def FD(K:KZ)(tl:TE):TI:=λσ H R=>tl σ H λx H1=>∃a,x=.ref a/\(∃xs,jG K H1 a xs)/\R (Gv K a) H1
noncomputable def Hq(K:KZ)(tl:TE):TI:=λσ H R=>tl σ H λx H1=>∃a,x=.ref a/\(∃xs,mK K H1 a xs)/\R (Hm K a) H1
theorem tE{l:Mb}{tl:TE}(hl:PE X l tl):PI X tg l (FD X.K tl):=by
 intro pins s σ H R I h;refine cg (hl pins s σ H _ I h) λv s1 zq=>zq.elim λx zq=>zq.elim λH1 zq=>zq.elim λI1 zq=>zq.elim λr1 q1=>?_;obtain⟨a,e,⟨xs,hq⟩,q⟩:=q1;subst e;cases r1;obtain⟨its,rv,p,hz⟩:=I1.list hq;refine wpAny_pyIter_list p.isList ?_;refine⟨s1.heap.objs.size,[s1.heap.objs.size],_,_,H1,rfl,I1.kept (t':=s1.toks) λb o e=>Ly _ e,vG a _,⟨_,Lz _ rfl,rfl,rfl⟩,λb hb=>?_,q⟩;have e:b=s1.heap.objs.size:=by simpa using hb
 subst e;exact I1.fpOk (IJ _) (I1.hok.fresh (IJ _))
theorem Dx{l:Mb}{tl:TE}(hl:PE X l tl):PI X tg l (Hq X.K tl):=by
 intro pins s σ H R I h;refine cg (hl pins s σ H _ I h) λv s1 zq=>zq.elim λx zq=>zq.elim λH1 zq=>zq.elim λI1 zq=>zq.elim λr1 q1=>?_;obtain⟨a,e,⟨xs,hq⟩,q⟩:=q1;subst e;cases r1;obtain⟨its,rv,p,hz⟩:=I1.tuple hq;refine wpAny_pyIter_tuple (show s1.heap.IsTuple a its.toArray from p) ?_;refine⟨s1.heap.objs.size,[s1.heap.objs.size],_,_,H1,rfl,I1.kept (t':=s1.toks) λb o e=>Ly _ e,rm a _,⟨_,Lz _ rfl,rfl,rfl⟩,λb hb=>?_,q⟩;have e:b=s1.heap.objs.size:=by simpa using hb
 subst e;exact I1.fpOk (IJ _) (I1.hok.fresh (IJ _))
theorem xA{pins:aG}{σ:St}{H:Hp}{s:Mf}{R:It->Hp->Prop}{E:aD}{lo hi:Int}{t u v:Tok}{tk:Nat}(I:`h)(h1:-(2^62)<=lo)(h2:lo<2^62)(h3:-(2^62)<=hi)(h4:hi<2^62)
  (q:R (F3 lo (hi-lo).toNat) H):Mr `i X.A (pyIter (.ref s.heap.objs.size)) (PIE X pins σ tg R) E {s with heap:=s.heap.push {cls:=.type "range",data:=.fields #[.int lo t,.int hi u,.int 1 v]},toks:=tk}:=by
 refine wpAny_pyIter_range (IsRange.new ..) (small_one h1 h2 h3 h4) ?_;have I1:Inv X pins σ H {s with heap:=s.heap.push {cls:=.type "range",data:=.fields #[.int lo t,.int hi u,.int 1 v]},toks:=tk}:=I.kept λb o e=>Ly _ e;refine⟨(s.heap.push {cls:=.type "range",data:=.fields #[.int lo t,.int hi u,.int 1 v]}).objs.size,[(s.heap.push {cls:=.type "range",data:=.fields #[.int lo t,.int hi u,.int 1 v]}).objs.size],_,_,H,rfl,
  I1.kept (t':=tk) λb o e=>Ly _ e,rZ _ lo (hi-lo).toNat,?_,λb hb=>?_,q⟩
 ·have e1:lo+((0:Nat):Int)*1=lo:=by simp
  have e2:(((hi-lo).toNat:Nat):Int)-((0:Nat):Int)=Builtin.Range.rangeSize lo hi 1:=by rw[rangeSize_one];split<;>omega
  show IsRangeIter _ _ (lo+((0:Nat):Int)*1) ((((hi-lo).toNat:Nat):Int)-((0:Nat):Int)) 1;rw[e1,e2];exact Lz _ rfl
 ·have e:b=(s.heap.push {cls:=.type "range",data:=.fields #[.int lo t,.int hi u,.int 1 v]}).objs.size:=by simpa using hb
  subst e;exact I1.fpOk (IJ _) (I1.hok.fresh (IJ _))
noncomputable def EL(ta:TA):TI:=λσ H R=>ta σ H λvs H1=>∃j:Int,vs=[.int j]/\-(2^62)<=j/\j<2^62/\R (F3 0 j.toNat) H1
theorem v7{a:Mb}{ta:TA}{p pos:Pos}(hg:Gl X "range")(hm:X.mg "range"=none)(ha:PA X [a] ta)(hs:Ms [a] X.env=[(false,eval a X.env)]:=by rfl):PI X tg (.Call (.Name "range" p) [a] [] pos) (EL ta):=by
 intro pins s σ H R I h;refine Call_ (o7 I hg hm boot_range (LK (cg (ha pos pins s σ H _ I h) λus s1 zq=>zq.elim λvs zq=>zq.elim λH1 zq=>zq.elim λI1 zq=>zq.elim λr1 q1=>?_) hs rfl));obtain⟨j,e,q1,q2,q⟩:=q1;subst e;cases r1 with
 |cons r rr=>
  cases rr;obtain⟨t,rfl⟩:=r;exact call_range_1 (xA I1 `o `o q1 q2 (by simpa using q))
noncomputable def HC(wi:TI)(g:TG)(tb:TS):TS:=λD σ H=>wi σ H λJ H1=>∃W:Nat->Nat->St->Hp->Prop,(∃m,W 0 m σ H1)/\∀i m σ H,W i m σ H->
 (J.stop i H/\D.nx σ H)\/(J.go i H/\∃N:St->Hp->Prop,(∀σ' H',N σ' H'->∃m',m'<m/\W (i+1) m' σ' H')/\∀x H',J.yld i H x H'->g x σ H' λσ2 H2=>tb {D with nx:=N,ct:=N,bk:=D.nx} σ2 H2)
noncomputable def my(fp:au)(h:Mj):aG:=fp.filterMap λb=>(h.get? b).map λo=>(b,o)
theorem gb{fp:au}{h:Mj}{b:Ma}{o:Obj}(hb:b∈fp)(e:h.get? b=some o):(b,o)∈my fp h:=List.mem_filterMap.mpr ⟨b,hb,by rw[e];rfl⟩
theorem va{fp:au}{h:Mj}{p:Ma×Obj}(hp:p∈my fp h):p.1∈fp/\h.get? p.1=some p.2:=by
 obtain⟨b,hb,e⟩:=List.mem_filterMap.mp hp;cases q:h.get? b with
 |none=>rw[q]at e;cases e
 |some o=>
  rw[q]at e;have e':(b,o)=p:=Option.some.inj e;subst e';exact⟨hb,q⟩
theorem Inv.pinned{pins:aG}{σ:St}{H:Hp}{s:Mf}{fp:au}(I:`h)(hf:∀b∈fp,oD X pins H b)(ho:∀b∈fp,∃o,s.heap.get? b=some o/\∀v,o.data≠.cell v):Inv X (pins++my fp s.heap) σ H s:=
 I.pins_of λp hp=>(List.mem_append.mp hp).elim (λz=>I.pin p (IK _ z)) λz=>by
  obtain⟨hb,e⟩:=va z;obtain⟨f0,f1,f2,_⟩:=hf p.1 hb;obtain⟨o,e',d⟩:=ho p.1 hb;rw[e]at e';cases e';exact⟨e,f0,f1,f2,d⟩
theorem Inv.unpinned{pins pl:aG}{σ:St}{H:Hp}{s:Mf}(I:Inv X (pins++pl) σ H s):Inv X pins σ H s:=I.pins_of λp hp=>I.pin p (IK _ (IE _ hp))
theorem Dh{iter:Mb}{body:cq}{wi:TI}{g:TG}{tb:TS}{pos:Pos}(hp:Mv `i X.A X.env X.xe)(hc:X.calm=true)(hi:PI X tg iter wi)(hg:PG X tg g)(hb:o4 X body tb)
  (hs:∀x,Mz iter X.env x=pure x:=by intro _;rfl):PS X (.For tg iter body [] pos) (HC wi g tb):=by
 intro pins s σ H D I h;refine wpAny_For (cg (hi pins s σ H _ I h) λv s1 h1=>cg h1 λitv s2 h2=>?_) hs;obtain⟨it,fp,tn,J,H2,e,I2,T,st2,f2,W,⟨m0,w0⟩,turn⟩:=h2;subst e;have stat:∀{H':Hp},(∀b∈fp,H' b=none)->∀b∈fp,oD X pins H' b:=λhn b hb=>⟨hn b hb,(f2 b hb).2⟩
 refine codeAny_forLoop_any (λn s'=>∃i σ' H',Inv X pins σ' H' s'/\tn i s'.heap/\(∀b∈fp,H' b=none)/\W i n σ' H') ?_ m0 ⟨0,σ,H2,I2,st2,λb hb=>(f2 b hb).1,w0⟩;rintro n s3 ⟨i,σ3,H3,I3,st3,fr3,w3⟩;rcases turn i n σ3 H3 w3 with⟨stop,qn⟩|⟨go,N,hN,step⟩
 ·refine Mw hp (cg (T.done X rfl rfl rfl hc i pins s3 σ3 H3 X.xe I3 (stat fr3) st3 stop) λr s4 zq=>zq.elim λhr I4=>?_);subst hr;exact Mu ⟨σ3,H3,I4,qn⟩
 ·refine Mw hp (cg (T.item X rfl rfl rfl hc i pins s3 σ3 H3 X.xe I3 (stat fr3) st3 go) λr s4 zq=>zq.elim λu zq=>zq.elim λhr h4=>?_);subst hr;refine Mw hp (cg h4 λ_ s5 zq=>zq.elim λx zq=>zq.elim λH5 zq=>zq.elim λI5 zq=>zq.elim λr5 zq=>zq.elim λy5 zq=>zq.elim λst5 fr5=>?_);have I5':=I5.pinned (stat fr5) (T.obj _ _ st5);refine Mw hp (cg (hg _ s5 σ3 H5 x u _ I5' r5 (step x H5 y5)) λ_ s6 zq=>zq.elim λσ6 zq=>zq.elim λH6 zq=>zq.elim λI6 q6=>?_);refine Mw hp (cg (hb _ s6 σ6 H6 _ I6 q6) λf s7 q7=>?_);have again:∀{σ7:St}{H7:Hp},Inv X (pins++my fp s5.heap) σ7 H7 s7->N σ7 H7->∃m,m<n/\∃i σ' H',Inv X pins σ' H' s7/\tn i s7.heap/\(∀b∈fp,H' b=none)/\W i m σ' H':=λ{σ7 H7} I7 n7=>by
   obtain⟨m',hm,w7⟩:=hN σ7 H7 n7;refine⟨m',hm,i+1,σ7,H7,I7.unpinned,T.keep _ _ _ st5 λb hb o e=>(I7.pin (b,o) (IK _ (IK _ (gb hb e)))).1,λb hb=>?_,w7⟩;obtain⟨o,e,d⟩:=T.obj _ _ st5 b hb;exact(I7.pin (b,o) (IK _ (IK _ (gb hb e)))).2.1
  cases f with
  |next=>obtain⟨σ7,H7,I7,n7⟩:=q7;exact again I7 n7
  |cont=>obtain⟨σ7,H7,I7,n7⟩:=q7;exact again I7 n7
  |brk=>obtain⟨σ7,H7,I7,q7⟩:=q7;exact⟨σ7,H7,I7.unpinned,q7⟩
  |ret v=>obtain⟨x7,σ7,H7,I7,r7,q7⟩:=q7;exact⟨x7,σ7,H7,I7.unpinned,r7,q7⟩
end
noncomputable abbrev R2:=V->V->Hp->VK->Prop
noncomputable def jj(X:Cx)(f:L8->L8->Sem L8)(r:R2):Prop:=
 ∀(pins:aG)(s:Mf)(σ:St)(H:Hp)(x y:V)(v u:L8)(Q:VK),Inv X pins σ H s->RelV x v->RelV y u->r x y H Q->
  Mr `i X.A (f v u) (EP X pins σ Q) X.xe s
noncomputable def Gr(X:Cx)(f:L8->Sem L8)(r:V->Hp->VK->Prop):Prop:=
 ∀(pins:aG)(s:Mf)(σ:St)(H:Hp)(x:V)(v:L8)(Q:VK),Inv X pins σ H s->RelV x v->r x H Q->
  Mr `i X.A (f v) (EP X pins σ Q) X.xe s
noncomputable def dz(X:Cx)(f:L8)(r:aB->Hp->VK->Prop):Prop:=
 ∀(pins:aG)(s:Mf)(σ:St)(H:Hp)(xs:aB)(us:aF)(Q:VK),Inv X pins σ H s->Vals xs us->r xs H Q->
  Mr `i X.A (call f us) (EP X pins σ Q) X.xe s
noncomputable def HD(X:Cx)(r:V->Hp->(Bool->Hp->Prop)->Prop):Prop:=
 ∀(pins:aG)(s:Mf)(σ:St)(H:Hp)(x:V)(v:L8)(Q:Bool->Hp->Prop),Inv X pins σ H s->RelV x v->r x H Q->
  Mr `i X.A (truthy v) (TP X pins σ Q) X.xe s
noncomputable def FJ(r:R2)(ta tb:TE):TE:=λσ H Q=>ta σ H λx H1=>tb σ H1 λy H2=>r x y H2 Q
noncomputable def HH(r:V->Hp->VK->Prop)(ta:TE):TE:=λσ H Q=>ta σ H λx H1=>r x H1 Q
noncomputable def rI(C:Int->Int->Prop)(g:Int->Int->V):R2:=λx y H Q=>∃i j,x=.int i/\y=.int j/\C i j/\Q (g i j) H
noncomputable def zW(g:Int->Int->V):R2:=λx y H Q=>∃i j,x=.int i/\y=.int j/\Q (g i j) H
noncomputable def rU(g:Int->V):V->Hp->VK->Prop:=λx H Q=>∃i,x=.int i/\Q (g i) H
section
variable{X:Cx}{a b c:Mb}{ta tb tc:TE}{pos:Pos}
theorem CT(ha:PE X a ta)(hb:PE X b tb){pins:aG}{s:Mf}{σ:St}{H:Hp}{R:V->V->Hp->Prop}(I:`h)
  (h:ta σ H λx H1=>tb σ H1 λy H2=>R x y H2) {Q:aD} {f:L8->L8->Sem L8}
  (hf:∀v u s2 x y H2,Inv X pins σ H2 s2->RelV x v->RelV y u->R x y H2->Mr `i X.A (f v u) Q X.xe s2):
  Mr `i X.A (eval a X.env) (λv s₁=>Mr `i X.A (eval b X.env) (λu s₂=>Mr `i X.A (f v u) Q X.xe s₂) X.xe s₁) X.xe s:=by
 refine cg (ha pins s σ H _ I h) λv s1 zq=>zq.elim λx zq=>zq.elim λH1 zq=>zq.elim λI1 zq=>zq.elim λr1 q1=>?_;refine cg (hb pins s1 σ H1 _ I1 q1) λu s2 zq=>zq.elim λy zq=>zq.elim λH2 zq=>zq.elim λI2 zq=>zq.elim λr2 q2=>?_;exact hf v u s2 x y H2 I2 r1 r2 q2
theorem Fm{op:Operator}{r:R2}(ho:jj X (MA op) r)(ha:PE X a ta)(hb:PE X b tb):PE X (.BinOp a op b pos) (FJ r ta tb):=by
 intro pins s σ H Q I h;exact wpAny_BinOp (CT ha hb I h λv u s2 x y H2 I2 rx ry q=>ho pins s2 σ H2 x y v u Q I2 rx ry q)
theorem Ff{op:UnaryOp}{r:V->Hp->VK->Prop}(ho:Gr X (unaryOp op) r)(ha:PE X a ta):PE X (.UnaryOp op a pos) (HH r ta):=by
 intro pins s σ H Q I h;exact UnaryOp_ (cg (ha pins s σ H _ I h) λv s1 zq=>zq.elim λx zq=>zq.elim λH1 zq=>zq.elim λI1 zq=>zq.elim λr1 q1=>ho pins s1 σ H1 x v Q I1 r1 q1)
theorem FV{f:L8->L8->Sem L8}{C:Int->Int->Prop}{g:Int->Int->Int}
  (rule:∀(i j:Int)(t u:Tok)(s:Mf)(Q:aD)(E:aD),C i j->Q (.int (g i j) s.toks) {s with toks:=s.toks+1}->Mr `i X.A (f (.int i t) (.int j u)) Q E s):
  jj X f (rI C λi j=>.int (g i j)):=by
 intro pins s σ H x y v u Q I rx ry h;obtain⟨i,j,rfl,rfl,hc,q⟩:=h;obtain⟨t,rfl⟩:=rx;obtain⟨t',rfl⟩:=ry;exact rule i j t t' s _ _ hc ⟨.int (g i j),H,I.tok _,⟨_,rfl⟩,q⟩
theorem EY{f:L8->L8->Sem L8}{g:Int->Int->Int}
  (rule:∀(i j:Int)(t u:Tok)(s:Mf)(Q:aD)(E:aD),Q (.int (g i j) s.toks) {s with toks:=s.toks+1}->Mr `i X.A (f (.int i t) (.int j u)) Q E s):
  jj X f (zW λi j=>.int (g i j)):=by
 intro pins s σ H x y v u Q I rx ry h;obtain⟨i,j,rfl,rfl,q⟩:=h;obtain⟨t,rfl⟩:=rx;obtain⟨t',rfl⟩:=ry;exact rule i j t t' s _ _ ⟨.int (g i j),H,I.tok _,⟨_,rfl⟩,q⟩
theorem Em{f:L8->L8->Sem L8}{g:Int->Int->Bool}
  (rule:∀(i j:Int)(t u:Tok)(s:Mf)(Q:aD)(E:aD),Q (.bool (g i j)) s->Mr `i X.A (f (.int i t) (.int j u)) Q E s):
  jj X f (zW λi j=>.bl (g i j)):=by
 intro pins s σ H x y v u Q I rx ry h;obtain⟨i,j,rfl,rfl,q⟩:=h;obtain⟨t,rfl⟩:=rx;obtain⟨t',rfl⟩:=ry;exact rule i j t t' s _ _ ⟨.bl (g i j),H,I,rfl,q⟩
noncomputable def Fl(i j:Int):Prop:=0<=j/\j<=1000000/\i.natAbs<2^64
noncomputable def B5(i j:Int):Prop:=(-(2^64)<i/\i<2^64)\/(-(2^64)<j/\j<2^64)
theorem B5.ok{i j:Int}(h:B5 i j):IntMulOk i j:=by
 rcases h with⟨h1,h2⟩|⟨h1,h2⟩
 ·exact .of_left (intBits_le_64 h1 h2)
 ·exact .of_right (intBits_le_64 h1 h2)
theorem Cw:jj X (MA .Add) (zW λi j=>.int (i+j)):=EY λ_ _ _ _ _ _ _ q=>add_int q
theorem C6:jj X (MA .Sub) (zW λi j=>.int (i-j)):=EY λ_ _ _ _ _ _ _ q=>sub_int q
theorem Ds:jj X (MA .Mult) (rI B5 λi j=>.int (i*j)):=FV λ_ _ _ _ _ _ _ hc q=>mul_int q hc.ok
theorem DL:jj X (MA .Mod) (rI (λ_ j=>0<j) λi j=>.int (i%j)):=FV λi j _ _ _ _ _ hc q=>by
 have h1:(0:Int)<j:=hc;exact mod_int' `o (by rw[Int.fmod_eq_emod_of_nonneg i `o];exact q)
theorem Dn:jj X (MA .Pow) (rI Fl λi j=>.int (i^j.toNat)):=FV λ_ _ _ _ _ _ _ hc q=>pow_int_small hc.1 hc.2.1 hc.2.2 q
theorem HV{f:L8->Sem L8}{g:Int->Int}
  (rule:∀(i:Int)(t:Tok)(s:Mf)(Q:aD)(E:aD),Q (.int (g i) s.toks) {s with toks:=s.toks+1}->Mr `i X.A (f (.int i t)) Q E s):
  Gr X f (rU λi=>.int (g i)):=by
 intro pins s σ H x v Q I rx h;obtain⟨i,rfl,q⟩:=h;obtain⟨t,rfl⟩:=rx;exact rule i t s _ _ ⟨.int (g i),H,I.tok _,⟨_,rfl⟩,q⟩
theorem DN:Gr X (unaryOp .USub) (rU λi=>.int (-i)):=HV λ_ _ _ _ _ q=>neg_int q
end
section
variable{X:Cx}{a b c:Mb}{ta tb tc:TE}{pos:Pos}
theorem yE{pins:aG}{σ:St}{H:Hp}{s:Mf}{Q:VK}{k k':Bool}(I:`h)(q:Q (.bl k) H)(e:k=k'):EP X pins σ Q (.bool k') s:=by
 subst e;exact⟨.bl k,H,I,rfl,q⟩
theorem Ep:jj X (MB .Lt) (zW λi j=>.bl (decide (i<j))):=Em λ_ _ _ _ _ _ _ q=>lt_int q
theorem BG:jj X (MB .Gt) (zW λi j=>.bl (decide (j<i))):=Em λ_ _ _ _ _ _ _ q=>gt_int q
theorem vv:jj X (MB .Lt) (λx y H Q=>∃i j,x=.str i/\y=.str j/\Q (.bl (decide (i.cps.toList<j.cps.toList))) H):=by
 intro pins s σ H x y v u Q I rx ry h;obtain⟨i,j,rfl,rfl,q⟩:=h;obtain⟨t,rfl⟩:=rx;obtain⟨t',rfl⟩:=ry;exact lt_str (yE I q rfl)
theorem gJ(b:Mb){op:CmpOp}(h:op≠.In:=by decide)(h2:op≠.NotIn:=by decide):MC op b=false:=by
 have e1:(op==CmpOp.In)=false:=by cases op<;>first|rfl|exact absurd rfl h
 have e2:(op==CmpOp.NotIn)=false:=by cases op<;>first|rfl|exact absurd rfl h2
 cases b<;>simp[MC,e1,e2]
theorem zZ{op:CmpOp}{r:R2}(ho:jj X (MB op) r)(ha:PE X a ta)(hb:PE X b tb)(hm:MC op b=false):PE X (.Compare a [op] [b] pos) (FJ r ta tb):=by
 intro pins s σ H Q I h;exact wpAny_Compare1 (CT ha hb I h λv u s2 x y H2 I2 rx ry q=>ho pins s2 σ H2 x y v u Q I2 rx ry q) hm
noncomputable def BO(t:TE):TT:=λσ H Q=>t σ H λx H'=>∃k,x=.bl k/\Q k H'
theorem zD{op:CmpOp}{r:R2}(ho:jj X (MB op) r)(ha:PE X a ta)(hb:PE X b tb)(hm:MC op b=false):PT X (.Compare a [op] [b] pos) (BO (FJ r ta tb)):=by
 intro pins s σ H Q I h;refine wpAny_isTrue_Compare1 (cg (ha pins s σ H _ I h) λv s1 zq=>zq.elim λx zq=>zq.elim λH1 zq=>zq.elim λI1 zq=>zq.elim λr1 q1=>cg (hb pins s1 σ H1 _ I1 q1) λu s2 zq=>zq.elim λy zq=>zq.elim λH2 zq=>zq.elim λI2 zq=>zq.elim λr2 q2=>
  cg (ho pins s2 σ H2 x y v u _ I2 r1 r2 q2) λc s3 zq=>zq.elim λz zq=>zq.elim λH3 zq=>zq.elim λI3 zq=>zq.elim λr3 zq=>zq.elim λk zq=>zq.elim λe q3=>?_) hm
 subst e;cases r3;exact wpAny_truthy_bool ⟨H3,I3,q3⟩
noncomputable def FP(K:KZ)(x:V)(H:Hp)(k:Bool):Prop:=
 match x with
 |.non=>k=false
 |.bl b=>k=b
 |.int i=>k=(i !=0)
 |.str y=>y.length<=Mk/\k=((y.length:Int) !=0)
 |.byt y=>y.size<=Mk/\k=((y.size:Int) !=0)
 |.ref p=>(∃xs,jG K H p xs/\k=!xs.isEmpty)\/(∃xs,mK K H p xs/\k=!xs.isEmpty)\/∃kvs,H p=some (.dK kvs)/\k=!kvs.isEmpty
 |_=>False
theorem sB{κ:Type}{kvs:List (κ×V)}{vs:List (κ×L8)}(r:KV kvs vs):(!vs.isEmpty)=!kvs.isEmpty:=by
 cases r<;>rfl
theorem mH{xs:aB}{its:aF}(r:Vals xs its):(!its.toArray.isEmpty)=!xs.isEmpty:=by
 cases r<;>simp
theorem jM:(Mk:Nat)<2^63:=by rw[MD];decide
theorem CI:HD X (λx H Q=>∃k,FP X.K x H k/\Q k H):=by
 intro pins s σ H x v Q I rx h;obtain⟨k,e,q⟩:=h;have hl:=jM;have hs:Mk=16777216:=MD;cases x with
 |non=>
  cases rx;have e':k=false:=e;subst e';exact truthy_none ⟨H,I,q⟩
 |bl b=>
  cases rx;have e':k=b:=e;subst e';exact wpAny_truthy_bool ⟨H,I,q⟩
 |int i=>
  obtain⟨t,rfl⟩:=rx;have e':k=(i !=0):=e;subst e';exact PySem.P.truthy_int ⟨H,I,q⟩
 |str y=>
  obtain⟨t,rfl⟩:=rx;obtain⟨hy,e'⟩:y.length<=Mk/\k=((y.length:Int) !=0):=e;subst e';exact PySem.P.truthy_str `o ⟨H,I.tok _,q⟩
 |byt y=>
  obtain⟨t,rfl⟩:=rx;obtain⟨hy,e'⟩:y.size<=Mk/\k=((y.size:Int) !=0):=e;subst e';exact PySem.W.truthy_bytes `o ⟨H,I.tok _,q⟩
 |ref p=>
  cases rx;have e':(∃xs,jG X.K H p xs/\k=!xs.isEmpty)\/(∃xs,mK X.K H p xs/\k=!xs.isEmpty)\/∃kvs,H p=some (.dK kvs)/\k=!kvs.isEmpty:=e;rcases e' with⟨xs,hx,e'⟩|⟨xs,hx,e'⟩|⟨kvs,hx,e'⟩
  ·subst e';obtain⟨its,r,pl,hz⟩:=I.list hx;have hlen:=r.length;exact wpAny_truthy_list pl.isList (by simp only[IL];omega) ⟨H,I.tok _,by rw[mH r];exact q⟩
  ·subst e';obtain⟨its,r,pl,hz⟩:=I.tuple hx;have hlen:=r.length;exact truthy_tuple pl (by simp only[IL];omega) ⟨H,I.tok _,by rw[mH r];exact q⟩
  ·subst e';obtain⟨hz,hS,vs,r,m⟩:kvs.length<=Mk/\(p==sysModules)=false/\∃vs,KV kvs vs/\s.heap.DictOf (aQ X.prog X.w) p vs:=I.hok p _ hx;have hlen:kvs.length=vs.length:=Paired.length r;exact wpAny_truthy_dict hS m `o ⟨H,I.tok _,by rw[sB r];exact q⟩
 |_=>exact(show False from e).elim
theorem yn(ha:PE X a ta)(he:∀whole,isTrue a X.env whole=(do let v<-whole;standAt a.pos;holding [v] (truthy v))):
  PT X a (λσ H Q=>ta σ H λx H'=>∃k,FP X.K x H' k/\Q k H'):=by
 intro pins s σ H Q I h;exact isTrue_plain (cg (ha pins s σ H _ I h) λv s1 zq=>zq.elim λx zq=>zq.elim λH1 zq=>zq.elim λI1 zq=>zq.elim λr1 q1=>CI pins s1 σ H1 x v Q I1 r1 q1) (he _)
theorem rE:jj X (MA .Add) (λx y H Q=>∃i j,x=.str i/\y=.str j/\i.length+j.length<=Mk/\Q (.str (i++j)) H):=by
 intro pins s σ H x y v u Q I rx ry h;obtain⟨i,j,rfl,rfl,hz,q⟩:=h;obtain⟨t,rfl⟩:=rx;obtain⟨t',rfl⟩:=ry;exact add_str (λt' tk=>⟨.str (i++j),H,I.tok _,⟨_,rfl⟩,q⟩) hz
theorem vals1{x:V}{us:aF}(r:Vals [x] us):∃u,us=[u]/\RelV x u:=by
 cases r with
 |cons r1 r2=>cases r2;exact⟨_,rfl,r1⟩
theorem vals2{x y:V}{us:aF}(r:Vals [x,y] us):∃u w',us=[u,w']/\RelV x u/\RelV y w':=by
 cases r with
 |cons r1 r2=>
  cases r2 with
  |cons r3 r4=>cases r4;exact⟨_,_,rfl,r1,r3⟩
end
theorem uR{h:Mj}{dx:Ma}{mA:bU}(n:h.Ns1 dx mA):∃od,h.get? dx=some od/\∀name,K1 name od=some (mA name):=by
 obtain⟨o,es,ep,ho,hd,hk,_,hm⟩:=n;refine⟨o,ho,λname=>?_⟩;have e:=hm name;unfold nsFind findBy at e;rw[<-Array.find?_toList]at e;unfold K1;rw[hd];dsimp only;split
 ·rename_i y q;rw[q]at e;exact congrArg some e
 ·rename_i q;rw[q]at e;have a:es.toList.any (·.refKey)=false:=by
   rw[List.any_eq_false];intro y hy;obtain⟨z,t,hkey⟩:=hk y (Array.mem_toList_iff.mp hy);simp[DictEntry.refKey,hkey]
  have a':¬es.toList.any (·.refKey)=true:=by rw[a];exact II
  rw[if_neg a'];exact congrArg some e
section
variable{prog:Mh}{w:Mg}{A:Mo}{E:aD}{s:Mf}{K:KZ}{x dx C f:Ma}{mA:bU}{name:Str}{v:L8}
end
theorem kZ.some_of{v:V}{o:Option L8}(r:kZ (some v) o):∃u,o=some u/\RelV v u:=by
 cases o with
 |none=>exact(show False from r).elim
 |some u=>exact⟨u,rfl,r⟩
theorem kZ.none_of{o:Option L8}(r:kZ none o):o=none:=by
 cases o with
 |none=>rfl
 |some u=>exact(show False from r).elim
theorem vq{v:V}{u:L8}(r:RelV v u):PySem.W.handedIn u=true:=by
 cases v with
 |non=>cases(show u=Value.none from r);rfl
 |bl b=>cases(show u=Value.bool b from r);rfl
 |int i=>obtain⟨t,e⟩:=(show∃t,u=Value.int i t from r);cases e;rfl
 |str x=>obtain⟨t,e⟩:=(show∃t,u=Value.str x t from r);cases e;rfl
 |byt b=>obtain⟨t,e⟩:=(show∃t,u=Value.bytes b t from r);cases e;rfl
 |flt b=>obtain⟨t,e⟩:=(show∃t,u=Value.float b t from r);cases e;rfl
 |ref a=>cases(show u=Value.ref a from r);rfl
 |ty n=>cases(show u=Value.type n from r);rfl
noncomputable def f9(K:KZ)(C:Ma)(f:Str):Prop:=K2 K (.ref C) f=some none
section
variable{X:Cx}{pins:aG}{σ:St}{H:Hp}{s:Mf}{a C dx:Ma}{fs:List (Str×V)}{f:Str}{v:V}{A:Mo}{E:aD}
theorem Au{prog:Mh}{w:Mg}{env:Env}{e:Mb}{f:Str}{pos:Pos}{s:Mf}{Q:aD}(hb:ME e f env (eval e env)=eval e env)
  (h:Mr `g A (eval e env) (λo s₁=>Mr `g A (getAttr o f true) Q E s₁) E s):Mr `g A (eval (.Attribute e f pos) env) Q E s:=
 Attribute_any_ h (by rw[arm_eval_Attribute,hb])
end
structure eQ(k:Nat)(A:Mo):Prop where
 hd:A.handled=none
 dp:A.depth+3*k+5<recursionLimit
 un:A.units+16*k+200<MF
theorem eQ.mono{j k:Nat}{A:Mo}(r:eQ k A)(h:j<=k):eQ j A:=⟨r.hd,by have:=r.dp;omega,by have:=r.un;omega⟩
theorem eQ.deeper{k:Nat}{A:Mo}(r:eQ (k+1) A)(env:Env):eQ k (A.deeper env):=
 ⟨r.hd,by have:=r.dp;show A.depth+1+3*k+5<_;omega,by have:=r.un;show A.units+3+16*k+200<_;omega⟩
theorem rX{A:Mo}{C:Ma}{us:aF}{kw:List (Str×L8)}:(A.under (.builtin "type.__call__" ⟨.ref C::us,kw⟩)).depth=A.depth+1:=by
 first|rfl|simp[Around.under,Code.weight,Code.isCreation,Code.isGuard,Code.isCaller,Code.frames,Code.isFrame,guardIds]
theorem rF{A:Mo}{C:Ma}{us:aF}{kw:List (Str×L8)}:(A.under (.builtin "type.__call__" ⟨.ref C::us,kw⟩)).units=A.units+1:=by
 first|rfl|simp[Around.under,Code.cUnits,Code.frames,Code.isFrame]
theorem eQ.make{k:Nat}{A:Mo}(r:eQ (k+1) A)(C:Ma)(us:aF)(kw:List (Str×L8)):eQ k (A.under (.builtin "type.__call__" ⟨.ref C::us,kw⟩)):=
 ⟨r.hd,by have:=r.dp;rw[rX];omega,by have:=r.un;rw[rF];omega⟩
theorem eQ.depth{k:Nat}{A:Mo}(r:eQ k A):A.depth<recursionLimit:=by have:=r.dp;omega
theorem eQ.units{k:Nat}{A:Mo}(r:eQ k A):A.units+64<MF:=by have:=r.un;omega
noncomputable def GO:TA:=λ_ H Q=>Q [] H
noncomputable def EX(ta:TE)(tr:TA):TA:=λσ H Q=>ta σ H λx H1=>tr σ H1 λxs H2=>Q (x::xs) H2
section
variable{X:Cx}{e:Mb}{es:aX}{te:TE}{t:TA}{pos:Pos}
theorem ya:PA X [] GO:=λ_ _ _ _ H Q I h=>Calls.spliced_nil ⟨[],H,I,.nil,h⟩
theorem pG(ha:PE X e te)(hr:PA X es t)(hs:Ms (e::es) X.env=(false,eval e X.env)::Ms es X.env:=by rfl):PA X (e::es) (EX te t):=by
 intro pos pins s σ H Q I h;rw[hs];show Mr _ _ (spliced ((false,eval e X.env)::backTo pos (Ms es X.env))) _ _ s;refine Calls.spliced_cons (cg (ha pins s σ H _ I h) λu s1 zq=>zq.elim λx zq=>zq.elim λH1 zq=>zq.elim λI1 zq=>zq.elim λr1 q1=>?_);exact cg (hr pos pins s1 σ H1 _ I1 q1) λus s2 zq=>zq.elim λxs zq=>zq.elim λH2 zq=>zq.elim λI2 zq=>zq.elim λr2 q2=>⟨x::xs,H2,I2,.cons r1 r2,q2⟩
noncomputable def GL(t:TA):TE:=λσ H Q=>t σ H λxs H1=>xs.length<=Mk/\∀p,H1 p=none->Q (.ref p) (upd H1 p (.tup xs))
noncomputable def Ha(t:TA):TE:=λσ H Q=>t σ H λxs H1=>xs.length<=Mk/\∀p,H1 p=none->Q (.ref p) (upd H1 p (.lst xs))
theorem CY{x1}(h:PA X es t):PE X (.Tuple es x1 pos) (GL t):=by
 intro pins s σ H Q I hq;refine wpAny_Tuple_spliced (cg (h pos pins s σ H _ I hq) λus s1 zq=>zq.elim λxs zq=>zq.elim λH1 zq=>zq.elim λI1 zq=>zq.elim λr zq=>zq.elim λz q=>⟨by rw[<-r.length];exact z,?_⟩);have hf:H1 s1.heap.objs.size=none:=I1.hok.fresh (IJ _);refine⟨.ref s1.heap.objs.size,upd H1 s1.heap.objs.size (.tup xs),I1.laid (t':=s1.toks) (λb u e=>Ly _ e) (IJ _) ?_,rfl,q _ hf⟩;exact⟨z,us,r,⟨_,Lz _ rfl,rfl,_,rfl⟩⟩
theorem wW(h:PA X es t):PE X (.List es pos) (Ha t):=by
 intro pins s σ H Q I hq;refine wpAny_List_spliced (cg (h pos pins s σ H _ I hq) λus s1 zq=>zq.elim λxs zq=>zq.elim λH1 zq=>zq.elim λI1 zq=>zq.elim λr zq=>zq.elim λz q=>⟨by rw[<-r.length];exact z,?_⟩);have hf:H1 s1.heap.objs.size=none:=I1.hok.fresh (IJ _);refine⟨.ref s1.heap.objs.size,upd H1 s1.heap.objs.size (.lst xs),I1.laid (t':=s1.toks) (λb u e=>Ly _ e) (IJ _) ?_,rfl,q _ hf⟩;exact⟨z,us,0,r,Lz _ rfl⟩
end
noncomputable abbrev Sp:=List V->Hp->VK->XK->Prop
noncomputable abbrev t5:=List Env->Hp->Mf->XK->aD
structure v6(P:Mh)(w:Mg)(K:KZ)(mg:bU)(base:Mj)(A:Mo)(outer:List Env)(s:Mf)(H:Hp):Prop where
 frames:A.frames=some outer
 mod:Mod K mg base
 bs:∀b o,base.get? b=some o->s.heap.get? b=some o/\H b=none
 bsz:base.objs.size<=s.heap.objs.size
 funs:s.heap.FunFrames base outer
 frf:∀b∈frs outer,H b=none
 hok:kN P w H s.heap
 bare:AllBare s.gens
noncomputable def CE(outer:List Env)(P:Mh)(w:Mg)(H:Hp)(s:Mf)(Q:VK)(u:L8)(s':Mf):Prop:=
 ∃v H',s'.os=s.os/\AllBare s'.gens/\Un (frs outer) [] H H' s.heap s'.heap/\kN P w H' s'.heap/\RelV v u/\Q v H'
noncomputable def CR(CX:t5)(outer:List Env)(P:Mh)(w:Mg)(H:Hp)(s:Mf)(Q:VK)(E:XK)(r:MG)(s':Mf):Prop:=
 match r with
 |.ok (.ret u)=>CE outer P w H s Q u s'
 |.ok _=>False
 |.error e=>CX outer H s E e s'
structure iW(P:Mh)(w:Mg)(K:KZ)(mg:bU)(base:Mj)(CX:t5)(k:Nat)(f:Ma)(fd:MH)(ps:ay)(sp:Sp):Prop where
 len:∀vs H Q E,sp vs H Q E->vs.length=ps.length
 run:∀(A:Mo)(outer:List Env)(s:Mf)(H:Hp)(args:Args)(us:aF)(vs:aB)(Q:VK)(E:XK),eQ k A->v6 P w K mg base A outer s H->MI s fd args (ps.zip us)->Vals vs us->sp vs H Q E->
  MJ (model P w) A (.call (.ref f) args) (CR CX outer P w H s Q E) s
theorem v6.make{P:Mh}{w:Mg}{K:KZ}{mg:bU}{base:Mj}{A:Mo}{outer:List Env}{s:Mf}{H:Hp}(e:v6 P w K mg base A outer s H)(C:Ma)(us:aF)(kw:List (Str×L8)):
  v6 P w K mg base (A.under (.builtin "type.__call__" ⟨.ref C::us,kw⟩)) outer s H:=⟨by first|exact e.frames|(simpa [Around.under,Code.envs,Code.isFrame,pushEnvs]using e.frames),e.mod,e.bs,e.bsz,e.funs,e.frf,e.hok,e.bare⟩
section
variable{X:Cx}{pins:aG}{σ:St}{H:Hp}{s s':Mf}
theorem Inv.env0(I:`h):v6 X.prog X.w X.K X.mg X.base X.A X.stack s H:=
 ⟨I.ok.frames,I.ok.mod,I.bs,Iy I.ok.bsz I.sz,I.stack,I.stkFree,I.hok,I.bare⟩
theorem Inv.after{Q:VK}{u:L8}(I:`h)(h:CE X.stack X.prog X.w H s Q u s'):EP X pins σ Q u s':=by
 obtain⟨v,H',os,bare,un,hok,r,q⟩:=h;obtain⟨hh,g,d,t,os'⟩:=s';obtain rfl:os'=s.os:=os;exact⟨v,H',I.call (h':=hh) (g':=g) (d':=d) (t':=t) (ch:=[]) un hok bare (λb z=>absurd z (by simp)),r,q⟩
end
noncomputable def Binds(K:KZ)(fd:MH)(ps:ay)(ds:aF):Prop:=
 ∀(s:Mf)(us:aF),K.In s.heap->(us++ds).length=ps.length->MI s fd ⟨us,[]⟩ (ps.zip (us++ds))
theorem Binds.all{K:KZ}{fd:MH}{ps:ay}(h:∀us:aF,us.length=ps.length->bindArgs fd ⟨us,[]⟩=pure (ps.zip us)):Binds K fd ps []:=λs us _ hl=>by
 rw[IM]at hl ⊢;exact .of_eq (h us hl)
noncomputable def Ci(CX:t5)(X:Cx)(E:XK):Prop:=∀(pins:aG)(σ:St)(H:Hp)(s:Mf)(e:L8)(s':Mf),Inv X pins σ H s->CX X.stack H s E e s'->X.xe e s'
section
variable{X:Cx}{CX:t5}{k:Nat}{f C:Ma}{fd:MH}{ps:ay}{sp:Sp}{dvs:aB}{ds:aF}{E:XK}{x m:Str}{p pos apos:Pos}{e o:Mb}{es:aX}{ta:TE}{t:TA}
end
structure dq(N P:ay)(sc:Mp):Prop where
 kind:sc.kind=.function
 co:sc.isCoroutine=false
 gen:sc.isGenerator=false
 nd:N.Nodup
 pre:N.take P.length=P
 par:∀x∈P,sc.names.lookup x=some .local\/sc.names.lookup x=some .cell
 nofree:∀y∈sc.names,y.2≠.free
theorem n5{kindOf:Str->Option L9}{x:Str}:∀{binds:List (Str×L8)}{m:bU},(∀v,(x,v)∉binds)->bindL kindOf binds m x=m x
 |[],_,_=>rfl
 |(n,v)::r,m,h=>by
  unfold bindL;rw[n5 λw hw=>h w (IC _ hw)];split
  ·have:x≠n:=(by rintro rfl;exact h v IB);simp[this]
  ·rfl
theorem nE{kindOf:Str->Option L9}{x:Str}:∀{binds:List (Str×L8)}{m:bU},(∀v,(x,v)∉binds)->bindC kindOf binds m x=m x
 |[],_,_=>rfl
 |(n,v)::r,m,h=>by
  unfold bindC;rw[nE λw hw=>h w (IC _ hw)];split
  ·rfl
  ·have:x≠n:=(by rintro rfl;exact h v IB);simp[this]
theorem nQ{kindOf:Str->Option L9}{x:Str}{v:L8}:∀{P:ay}{vs:aF}{i:Nat}{m:bU},P.Nodup->P[i]?=some x->vs[i]?=some v->kindOf x=some .local->
  bindL kindOf (P.zip vs) m x=some v
 |[],_,_,_,_,h,_,_=>by simp at h
 |_::_,[],_,_,_,_,h,_=>by simp at h
 |p::P,w::vs,0,m,nd,h1,h2,hk=>by
  simp at h1 h2;subst h1;subst h2;show bindL kindOf ((p,w)::P.zip vs) m p=_;unfold bindL;rw[n5 λv hv=>(List.nodup_cons.mp nd).1 (IP hv).1,if_pos hk];simp
 |p::P,w::vs,i+1,m,nd,h1,h2,hk=>by
  show bindL kindOf ((p,w)::P.zip vs) m x=_;unfold bindL;exact nQ (i:=i) (List.nodup_cons.mp nd).2 (by simpa using h1) (by simpa using h2) hk
theorem nS{kindOf:Str->Option L9}{x:Str}{v:L8}:∀{P:ay}{vs:aF}{i:Nat}{m:bU},P.Nodup->P[i]?=some x->vs[i]?=some v->kindOf x≠some .local->
  bindC kindOf (P.zip vs) m x=some v
 |[],_,_,_,_,h,_,_=>by simp at h
 |_::_,[],_,_,_,_,h,_=>by simp at h
 |p::P,w::vs,0,m,nd,h1,h2,hk=>by
  simp at h1 h2;subst h1;subst h2;show bindC kindOf ((p,w)::P.zip vs) m p=_;unfold bindC;rw[nE λv hv=>(List.nodup_cons.mp nd).1 (IP hv).1,if_neg hk];simp
 |p::P,w::vs,i+1,m,nd,h1,h2,hk=>by
  show bindC kindOf ((p,w)::P.zip vs) m x=_;unfold bindC;exact nS (i:=i) (List.nodup_cons.mp nd).2 (by simpa using h1) (by simpa using h2) hk
noncomputable def start(N:ay)(vs:aB):St:=vs.map some++List.replicate (N.length-vs.length) none
noncomputable def gI(CX:t5)(P:Mh)(w:Mg)(K:KZ)(mg:bU)(base:Mj)(N:ay)(qual:Str)(scope:Mp)(f:Ma)(cd:L8)(A:Mo)(outer:List Env)(s:Mf)(H:Hp)(E:XK):Cx where
 prog:=P
 w:=w
 K:=K
 mg:=mg
 base:=base
 A:=A.deeper (envOfC qual scope s.heap.objs.size f cd)
 N:=N
 s₀:=s
 H₀:=H
 env:=envOfC qual scope s.heap.objs.size f cd
 outer:=outer
 stack:=envOfC qual scope s.heap.objs.size f cd::outer
 ex:=[]
 calm:=true
 fn:=λ_=>true
 pn:=[]
 xe:=λe s'=>Mr (model P w) (A.deeper (envOfC qual scope s.heap.objs.size f cd)) (leaving (envOfC qual scope s.heap.objs.size f cd) e) (λ_ s''=>CX outer H s E e s'') (λe' s''=>CX outer H s E e' s'') s'
theorem qq{sc:Mp}{n:Nat}{x:Str}(h:sc.names.lookup x=some .cell):∃c,(cellsFrom n sc.names []).lookup x=some c:=by
 have q:=K3 sc.names n [] (.inl h);exact Option.isSome_iff_exists.mp q
theorem vt{CX:t5}{P:Mh}{w:Mg}{K:KZ}{mg:bU}{base:Mj}{N ps:ay}{qual:Str}{scope:Mp}{f:Ma}{cd:L8}{A:Mo}{outer:List Env}{s s1:Mf}{H:Hp}{E:XK}{us:aF}{vs:aB}
  (S:dq N ps scope) (hd:A.handled=none) (e0:v6 P w K mg base A outer s H) (hl:vs.length=ps.length) (r:Vals vs us)
  (x:InCallC s s.heap.objs.size (bindL (envOfC qual scope s.heap.objs.size f cd).kindOf (ps.zip us) λ_=>none) (cellsFrom (s.heap.objs.size+1) scope.names []) (bindC (envOfC qual scope s.heap.objs.size f cd).kindOf (ps.zip us) λ_=>none) s1):
  Inv (gI CX P w K mg base N qual scope f cd A outer s H E) [] (start N vs) H s1:=by
 have hpl:ps.length<=N.length:=by have:=congrArg List.length S.pre;rw[IQ]at this;omega
 obtain⟨h1,tk,rfl,hk⟩:=x.done;have noA:∀b:Ma,b∉(gI CX P w K mg base N qual scope f cd A outer s H E).ex:=λb z=>absurd (show b∈([]:au)from z) (by simp);refine⟨⟨e0.mod,S.kind,rfl,rfl,IJ _,λy z c h1 h2=>?_,λy hy=>?_,λy c _ h=>?_,λ_=>hd,Around.frames_deeper e0.frames,.inr ⟨rfl,rfl⟩,λb z=>absurd z (noA b),e0.bs,e0.bsz,λb _ _=>noA b,λb z=>absurd z (noA b),e0.funs,e0.frf⟩,
  rfl,e0.bare,Un.kept hk,⟨_,x.toInCall.ns,λi y v h1 h2 h3=>?_⟩,λy c h=>⟨_,x.cell y c h⟩,e0.hok.fresh (IJ _),λy c h=>?_,λp hp=>absurd (show p∈([]:aG)from hp) (by simp),e0.hok.kept hk,?_⟩
 ·exact name_of_addr x.apart (PySem.mem_of_lookup h1) (PySem.mem_of_lookup h2)
 ·have hy:scope.names.lookup y=some .cell\/scope.names.lookup y=some .free:=hy;rcases hy with hy|hy
  ·exact qq hy
  ·exact absurd rfl (S.nofree _ (PySem.mem_of_lookup hy))
 ·exact Iz (x.above y c (PySem.mem_of_lookup h))
 ·have hi:i<vs.length:=by
   unfold start at h2;by_cases hi:i<vs.length
   ·exact hi
   ·rw[IR (by simpa using hi)]at h2;rw[IT]at h2;split at h2<;>cases h2
  have ha:vs[i]?=some v:=by
   unfold start at h2;rw[IU (by simpa using hi),IV]at h2;cases e:vs[i]? with
   |none=>rw[e]at h2;cases h2
   |some a=>rw[e]at h2;cases h2;rfl
  obtain⟨u,hu,rv⟩:=r.get ha;have hp:ps[i]?=some y:=by
   rw[<-S.pre,List.getElem?_take_of_lt `o];exact h1
  have ndP:ps.Nodup:=by rw[<-S.pre];exact S.nd.sublist (IW _ _)
  refine⟨u,rv,?_⟩;rcases S.par y (IX hp)with k|k
  ·exact .inl ⟨k,nQ ndP hp hu k⟩
  ·obtain⟨c,e⟩:=qq (n:=s.heap.objs.size+1) k;refine .inr ⟨.inl k,c,e,?_⟩;have q:=x.cell y c e;rw[nS ndP hp hu (by show scope.names.lookup y≠_;rw[k];decide)]at q;exact q
 ·exact e0.hok.fresh (Iz (x.above y c (PySem.mem_of_lookup h)))
 ·unfold start;show _=N.length;rw[IY,IZ,Ja];omega
theorem BI{CX:t5}{P:Mh}{w:Mg}{K:KZ}{mg:bU}{base:Mj}{k:Nat}{f:Ma}{name qual:Str}{params:Arguments}{body:cq}{scope:Mp}{dV kV doc pm cdv ct oc:L8}{an od:Option Ma}
  {osl:Array (Option L8)} {N ps:ay} {sp:Sp} (lk:K.lookup f=some ⟨oc,od,.func (K4 name qual params body scope dV kV doc pm an cdv ct),osl⟩) (hcd:K8 K cdv qual=true) (S:dq N ps scope)
  (len:∀vs H Q E,sp vs H Q E->vs.length=ps.length)
  (hbody:∀ (A:Mo) (outer:List Env) (s:Mf) (H:Hp) (vs:aB) (Q:VK) (E:XK),eQ k (A.deeper (envOfC qual scope s.heap.objs.size f cdv))->sp vs H Q E ->
   ∃t,o4 (gI CX P w K mg base N qual scope f cdv A outer s H E) body t/\t {nx:=λ_ H'=>Q .non H',rt:=Q} (start N vs) H):
  iW P w K mg base CX (k+1) f (K4 name qual params body scope dV kV doc pm an cdv ct) ps sp:=by
 refine⟨len,λA outer s H args us vs Q E hr e0 hb r hsp=>?_⟩;have hl:=len _ _ _ _ hsp;have KX:K.In s.heap:=e0.mod.kin.keeps λb o e=>(e0.bs b o e).1;have lim:s.heap.NoLimit:=e0.mod.nolimit.keeps λb o e=>(e0.bs b o e).1;have hkind:∀y∈ps.zip us,scope.names.lookup y.1=some .local\/(scope.names.lookup y.1=some .cell/\((cellsFrom (s.heap.objs.size+1) scope.names []).lookup y.1).isSome=true):=λ⟨n,v⟩ hy=>by
  rcases S.par n (IP hy).1 with q|q
  ·exact .inl q
  ·exact .inr ⟨q,K3 _ _ _ (.inl q)⟩
 refine codeAny_call_function hr.depth (KX _ _ lk) rfl S.co S.gen rfl (PySem.W.codeRec_of KX hcd) (hb _ _ _ _ ?_);refine wpAny_newFunctionEnv_cells S.kind hkind λenv he s1 x=>?_;subst he;refine⟨lim.keeps x.toInCall.keep,codeAny_func ?_⟩;obtain⟨t,ht,hq⟩:=hbody A outer s H vs Q E (hr.deeper _) hsp;have I:Inv (gI CX P w K mg base N qual scope f cdv A outer s H E) [] (start N vs) H s1:=vt S hr.hd e0 hl r x;refine Mt (ht [] s1 (start N vs) H _ I hq) (λfl s' hs=>?_) λe s' hs=>hs;have fin:∀{σ':St}{H':Hp}{v:V}{u:L8},Inv (gI CX P w K mg base N qual scope f cdv A outer s H E) [] σ' H' s'->RelV v u->Q v H'->CE outer P w H s Q u s':=
  λ{σ' H' v u} J rv q=>⟨v,H',J.os,J.bare,J.base,J.hok,rv,q⟩
 cases fl with
 |ret u=>
  obtain⟨v,σ',H',J,rv,q⟩:=hs;exact fin J rv q
 |next=>
  obtain⟨σ',H',J,q⟩:=hs;exact fin (v:=V.non) (u:=Value.none) J rfl q
 |brk=>
  obtain⟨_,_,_,q⟩:=hs;exact False.elim q
 |cont=>
  obtain⟨_,_,_,q⟩:=hs;exact False.elim q
section
variable{X:Cx}{x:Str}{p pos:Pos}{e:Mb}{es:aX}{t:TA}{id T:String}{r:aB->Hp->VK->Prop}
noncomputable def GU(r:aB->Hp->VK->Prop)(t:TA):TE:=λσ H Q=>t σ H λvs H1=>r vs H1 Q
theorem qC(hc:dz X (.builtin id) r)(hg:Gl X x)(hm:X.mg x=none)(hv:Mm x=some (.builtin id))(ha:PA X (e::es) t)(hn:x≠"__name__":=by decide)(hdb:(x==("__debug__":Str))=false:=by decide)
  (he:Ms (e::es) X.env=(false,eval e X.env)::Ms es X.env:=by rfl) (hpl:(backTo pos (Ms es X.env)).any (·.1)=false:=by rfl):PE X (.Call (.Name x p) (e::es) [] pos) (GU r t):=by
 intro pins s σ H Q I h;refine MK (o7 I hg hm hv ?_ hn hdb);exact PyProof.Rows.callWith_builtin1 (cg (ha pos pins s σ H _ I h) λus s1 zq=>zq.elim λvs zq=>zq.elim λH1 zq=>zq.elim λI1 zq=>zq.elim λr1 q1=>hc pins s1 σ H1 vs us Q I1 r1 q1) he hpl
theorem kA(hc:dz X (.type T) r)(hg:Gl X x)(hm:X.mg x=none)(hv:Mm x=some (.type T))(ha:PA X (e::es) t)(hn:x≠"__name__":=by decide)(hdb:(x==("__debug__":Str))=false:=by decide)
  (he:Ms (e::es) X.env=(false,eval e X.env)::Ms es X.env:=by rfl) (hpl:(backTo pos (Ms es X.env)).any (·.1)=false:=by rfl):PE X (.Call (.Name x p) (e::es) [] pos) (GU r t):=by
 intro pins s σ H Q I h;refine MK (o7 I hg hm hv ?_ hn hdb);exact LK (cg (ha pos pins s σ H _ I h) λus s1 zq=>zq.elim λvs zq=>zq.elim λH1 zq=>zq.elim λI1 zq=>zq.elim λr1 q1=>hc pins s1 σ H1 vs us Q I1 r1 q1) he hpl
end
end L2
namespace HT
open PySem PyProof.Rows
theorem Fo(A:Mo)(s:Mf)(a:Int)(t:Tok)(c:Int)(u:Tok)(prog:Mh)(w:Mg)(E:L8->Mf->Prop)(Q:L8->Mf->Prop)(h:Q (.bool (decide (a<c))) s):
  Mr `g A (richCompare .Lt (.int a t) (.int c u)) Q E s:=
 (PyProof.Rows.lt_int h:Mr `g A (MB .Lt (.int a t) (.int c u)) Q E s)
section
open PySem.SeqAt
open PySem.AutoSeq1 (wpAny_loadPart')
open PySem.MeetsSeq PySem.MeetsSeq2 PySem.MeetsSeq3
end
section
variable{prog:Mh}{w:Mg}{A:Mo}{E:L8->Mf->Prop}{s:Mf}
theorem F9{t b:Ma}{vs ws:List L8}{Q:L8->Mf->Prop}(ht:IsTup s.heap t vs.toArray)(hb:IsTup s.heap b ws.toArray)(hv:vs≠[])
  (h1:ws=[]->Q (.ref t) s) (h2:ws≠[]->Q (.ref s.heap.objs.size) {s with heap:=s.heap.push {cls:=.type "tuple",data:=.seq (vs++ws).toArray}})
  (hsz:vs.length+ws.length<=Mk):Mr `g A (MA .Add (.ref t) (.ref b)) Q E s:=by
 obtain⟨⟨cls,dd,data,sl⟩,ho,hc,n,hd⟩:=id ht;obtain⟨⟨cls2,dd2,data2,sl2⟩,ho2,hc2,n2,hd2⟩:=id hb;simp only at hc hd hc2 hd2;subst hc hd hc2 hd2;have e:vs.toArray++ws.toArray=(vs++ws).toArray:=by simp
 by_cases hw:ws=[]
 ·exact ML ⟨_,ho,rfl⟩ ⟨_,ho2,rfl⟩ MM MN LV LW (LX _ _)
   (tuple_addW1 t b vs.toArray ws.toArray n n2 dd dd2 sl sl2 (by simpa using hv) (by simp[hw])) ⟨ho,ho2,h1 hw⟩
 ·refine ML ⟨_,ho,rfl⟩ ⟨_,ho2,rfl⟩ MM MN LV LW (LX _ _)
   (tuple_addW2 t b vs.toArray ws.toArray n n2 dd dd2 sl sl2 (by simpa using hv) (by simpa using hw) (by rw[IL,IL];exact hsz)) ⟨ho,ho2,?_⟩
  rw[e];exact h2 hw
noncomputable def sIx(n d:Nat):Option Int->Nat
 |none=>d
 |some v=>if v<0 then(v+(n:Int)).toNat else min v.toNat n
theorem B9(n d:Nat)(hd:d<=n)(o:Option Int):sIx n d o<=n:=by
 cases o with
 |none=>exact hd
 |some v=>
  show(if v<0 then(v+(n:Int)).toNat else min v.toNat n)<=n;by_cases hv:v<0
  ·rw[if_pos hv];omega
  ·rw[if_neg hv];exact Nat.min_le_right _ _
theorem sZ(v:Int)(n d:Nat):(if v<0 then max (v+(n:Int)) 0 else min v (n:Int))=((sIx n d (some v):Nat):Int):=by
 show(if v<0 then max (v+(n:Int)) 0 else min v (n:Int))=(((if v<0 then(v+(n:Int)).toNat else min v.toNat n):Nat):Int)
 by_cases hv:v<0
 ·simp only[if_pos hv];omega
 ·simp only[if_neg hv];omega
theorem su(lo hi:Option Int)(n:Nat):Builtin.Slice.sliceAdjust lo hi 1 (n:Int)=(((sIx n 0 lo:Nat):Int),((sIx n n hi:Nat):Int)):=by
 have h1:¬((1:Int)<0):=by omega
 unfold Builtin.Slice.sliceAdjust;simp only[h1,if_false];refine Prod.ext ?_ ?_
 ·cases lo with
  |none=>rfl
  |some v=>exact sZ v n 0
 ·cases hi with
  |none=>rfl
  |some v=>exact sZ v n n
theorem rS(i j:Nat):Builtin.Slice.slicePlaces (i:Int) (j:Int) 1=j-i:=by
 unfold Builtin.Slice.slicePlaces;have h1:(1:Int)>0:=by omega
 simp only[h1,if_true,Int.ediv_one];split<;>omega
theorem lA{v:L8}{o:Option Int}{Q:Option Int->Mf->Prop}(p:MO v o)(h:Q o s):Mr `g A (Builtin.Slice.slicePartIndex v) Q E s:=by
 cases p with
 |none=>exact slicePart_none h
 |int i t=>exact slicePart_int h
theorem kK{sl:Ma}{vl vu:L8}{lo hi:Option Int}{n:Nat}{Q:Int×Int×Nat->Mf->Prop}(hs:s.heap.IsSliceOf sl vl vu .none)(pl:MO vl lo)(pu:MO vu hi)
  (h:Q (((sIx n 0 lo:Nat):Int),1,sIx n n hi-sIx n 0 lo) s):Mr `g A (Builtin.Slice.sliceApplied (.ref sl) (pure (n:Int))) Q E s:=by
 obtain⟨os,hos,hcs,hds⟩:=id hs;unfold Builtin.Slice.sliceApplied Builtin.Slice.sliceFields;refine My (My (MP hos hds (x:=vl) rfl (My (MP hos hds (x:=vu) rfl (My (MP hos hds (x:=.none) rfl (Mx ?_)))))));refine My (slicePart_none ?_);show Mr _ _ (if((1:Int)==0)=true then _ else _) _ _ s;rw[if_neg (by decide)];refine My (lA pl (My (lA pu (My (Mx ?_)))));show Mr _ _ (match Builtin.Slice.sliceAdjust lo hi 1 (n:Int)with|(lo,hi)=>pure (lo,(1:Int),Builtin.Slice.slicePlaces lo hi 1)) _ _ s;rw[su lo hi n];show Mr _ _ (pure (((sIx n 0 lo:Nat):Int),(1:Int),Builtin.Slice.slicePlaces ((sIx n 0 lo:Nat):Int) ((sIx n n hi:Nat):Int) 1)) _ _ s;rw[rS];exact Mx h
theorem yN(xs:Array L8)(i k:Nat):((List.range k).filterMap λ(m:Nat)=>xs[((i:Int)+(m:Int)*1).toNat]?).toArray=((xs.toList.drop i).take k).toArray:=by
 have e:(λ(m:Nat)=>xs[((i:Int)+(m:Int)*1).toNat]?)=λm=>xs[i+m]?:=by
  funext m
  have:((i:Int)+(m:Int)*1).toNat=i+m:=by omega
  rw[this]
 rw[e]
 have:=pick_run xs i k
 rw[List.filterMap_map]at this;have e2:((λx=>xs[x]?)∘λx=>i+x)=λm=>xs[i+m]?:=rfl;rw[e2]at this;rw[this]
theorem uf{t sl:Ma}{items:Array L8}{vl vu:L8}{lo hi:Option Int}{Q:L8->Mf->Prop}(ht:IsTup s.heap t items)(hs:s.heap.IsSliceOf sl vl vu .none)(pl:MO vl lo)(pu:MO vu hi)
  (hw:¬(sIx items.size 0 lo=0/\sIx items.size items.size hi=items.size))
  (h:Q (.ref s.heap.objs.size) {s with heap:=s.heap.push {cls:=.type "tuple",data:=.seq ((items.toList.drop (sIx items.size 0 lo)).take (sIx items.size items.size hi-sIx items.size 0 lo)).toArray}})
  (hsz:items.size<=Mk):Mr `g A (getItem (.ref t) (.ref sl)) Q E s:=by
 have htake:sizeOk (.seq ((items.toList.drop (sIx items.size 0 lo)).take (sIx items.size items.size hi-sIx items.size 0 lo)).toArray):=by
  show((items.toList.drop (sIx items.size 0 lo)).take (sIx items.size items.size hi-sIx items.size 0 lo)).toArray.size<=Mk;rw[IL,IQ,Jb,Array.length_toList];omega
 have hj:sIx items.size items.size hi<=items.size:=B9 _ _ (IJ _) hi;obtain⟨os,hos,hcs,hds⟩:=id hs;have hTs:s.TypeIs (.ref sl) "slice":=⟨os,hos,hcs⟩
 unfold getItem
 try with_reducible refine MQ ?_
 first|refine My (Mx ?_)|skip
 refine My (wpAny_sequenceKey ht.typeIs (by decide) ?_);refine My (MR (name:=Str.ofString "__getitem__") ht.typeIs LL
  (MS LL ht.typeIs entry_tuple_getitem ?_ (args_tuple_getitem _ _)))
 show Mr _ _ (Builtin.Tuple.tupleItemsOf (.ref t) >>= _) _ _ s;refine My (tupleItemsOf_ ht ?_);refine My (MT hTs ?_);rw[if_pos (by decide)];refine My (kK hs pl pu ?_);have hno:¬((((sIx items.size 0 lo:Nat):Int)==0&&(1:Int)==1&&(sIx items.size items.size hi-sIx items.size 0 lo)==items.size)=true):=by
  intro q;rw[Jc,Jc]at q;have q1:((sIx items.size 0 lo:Nat):Int)=0:=eq_of_beq q.1.1;have q2:sIx items.size items.size hi-sIx items.size 0 lo=items.size:=eq_of_beq q.2;exact hw ⟨by omega,by omega⟩
 show Mr _ _ (if(((sIx items.size 0 lo:Nat):Int)==0&&(1:Int)==1&&(sIx items.size items.size hi-sIx items.size 0 lo)==items.size)=true then _ else _) _ _ s;rw[if_neg hno,yN]
 first
  |exact My (m:=Builtin.Tuple.tupleExact _) (MU (Mx ⟨_,rfl,Mx h⟩) htake)
  |exact My (m:=Builtin.Tuple.tupleExact _) (MU (My (Mx (Mx ⟨_,rfl,Mx h⟩))) htake)
  |exact My (My (m:=Builtin.Tuple.tupleExact _) (MU (Mx (Mx ⟨_,rfl,Mx h⟩)) htake))
  |exact My (My (m:=Builtin.Tuple.tupleExact _) (MU (Mx ⟨_,rfl,Mx h⟩) htake))
end
end HT
namespace L2
open PySem PySem.Spec PyProof.Rows
noncomputable abbrev TO:=St->Hp->(bX->Hp->Prop)->Prop
noncomputable def PO(X:Cx)(e:Option Mb)(t:TO):Prop:=
 ∀(pins:aG)(s:Mf)(σ:St)(H:Hp)(Q:bX->Hp->Prop),Inv X pins σ H s->t σ H Q->
  Mr `i X.A (evalPart e X.env) (λu s'=>∃o H',Inv X pins σ H' s'/\MO u o/\Q o H') X.xe s
noncomputable def Fp(t:TE):TO:=λσ H Q=>t σ H λx H1=>∃i,x=.int i/\Q (some i) H1
section
variable{X:Cx}{e:Mb}{te:TE}{lo hi:Option Mb}{tl th:TO}{pos p2:Pos}
theorem Bq(h:PE X e te):PO X (some e) (Fp te):=by
 intro pins s σ H Q I hw;rw[evalPart_some];refine cg (h pins s σ H _ I hw) λu s1 zq=>zq.elim λx zq=>zq.elim λH1 zq=>zq.elim λI1 zq=>zq.elim λr1 q1=>?_;obtain⟨i,rfl,q⟩:=q1;obtain⟨t,rfl⟩:=r1;exact⟨some i,H1,I1,.int i t,q⟩
noncomputable def F6(X:Cx)(r:V->bX->bX->Hp->VK->Prop):Prop:=
 ∀(pins:aG)(s:Mf)(σ:St)(H:Hp)(x:V)(v vl vu:L8)(lo hi:bX)(sl:Ma)(Q:VK),Inv X pins σ H s->RelV x v->s.heap.IsSliceOf sl vl vu .none->MO vl lo->MO vu hi->r x lo hi H Q->
  ∃T id,typeLookup (.type T) "__getitem__"=pure (some (.builtin id))/\s.TypeIs v T/\Mr `i X.A (getItem v (.ref sl)) (EP X pins σ Q) X.xe s
noncomputable def Ib(r:V->bX->bX->Hp->VK->Prop)(te:TE)(tl th:TO):TE:=λσ H Q=>te σ H λx H1=>tl σ H1 λl H2=>th σ H2 λu H3=>r x l u H3 Q
theorem yB{r:V->bX->bX->Hp->VK->Prop}(hr:F6 X r)(he:PE X e te)(hl:PO X lo tl)(hu:PO X hi th):PE X (.Subscript e (.Slice lo hi none p2) pos) (Ib r te tl th):=by
 intro pins s σ H Q I h;refine Subscript_ (cg (he pins s σ H _ I h) λv s1 zq=>zq.elim λx zq=>zq.elim λH1 zq=>zq.elim λI1 zq=>zq.elim λr1 q1=>?_);refine wpAny_Slice (cg (hl pins s1 σ H1 _ I1 q1) λvl s2 zq=>zq.elim λl zq=>zq.elim λH2 zq=>zq.elim λI2 zq=>zq.elim λpl q2=>cg (hu pins s2 σ H2 _ I2 q2) λvu s3 zq=>zq.elim λu zq=>zq.elim λH3 zq=>zq.elim λI3 zq=>zq.elim λpu q3=>?_);rw[evalPart_none];refine Mx ?_;have I4:Inv X pins σ H3 {s3 with heap:=s3.heap.push {cls:=.type "slice",data:=.fields #[vl,vu,.none]}}:=I3.kept (t':=s3.toks) λb ob q=>Ly _ q;obtain⟨T,id,hT,ht,hg⟩:=hr pins {s3 with heap:=s3.heap.push {cls:=.type "slice",data:=.fields #[vl,vu,.none]}} σ H3 x v vl vu l u s3.heap.objs.size Q I4 r1 (Heap.IsSliceOf.new ..) pl pu q3;show Mr `i X.A (subscriptTail e (.Slice lo hi none p2) v (.ref s3.heap.objs.size)) (EP X pins σ Q) X.xe {s3 with heap:=s3.heap.push {cls:=.type "slice",data:=.fields #[vl,vu,.none]}};exact tail_any (ops:=[.ref s3.heap.objs.size,v]) ht hT hg (by with_unfolding_all rfl)
noncomputable def qX(xs:aB)(lo hi:bX):aB:=(xs.drop (HT.sIx xs.length 0 lo)).take (HT.sIx xs.length xs.length hi-HT.sIx xs.length 0 lo)
theorem kP(xs:aB)(lo hi:bX):(qX xs lo hi).length<=xs.length:=by
 unfold qX;rw[IQ,Jb];omega
noncomputable def GC(K:KZ):V->bX->bX->Hp->VK->Prop:=λx lo hi H Q=>∃a xs,x=.ref a/\mK K H a xs/\
 ¬(HT.sIx xs.length 0 lo=0/\HT.sIx xs.length xs.length hi=xs.length)/\∀p,H p=none->Q (.ref p) (upd H p (.tup (qX xs lo hi)))
theorem DW:F6 X (GC X.K):=by
 intro pins s σ H x v vl vu lo hi sl Q I rx hs pl pu h;obtain⟨a,xs,rfl,hx,hw,q⟩:=h;cases rx;obtain⟨its,r,ht,hz⟩:=I.tuple hx;have hlen:its.toArray.size=xs.length:=by rw[IL];exact r.length.symm
 refine⟨"tuple",_,PyProof.Rows.slot_tuple_getitem.lookup,ht.typeIs,?_⟩;refine HT.uf ht hs pl pu (by rw[hlen];exact hw) ?_ (by rw[hlen];exact hz);rw[hlen];refine⟨.ref s.heap.objs.size,_,I.laid (t':=s.toks) (o:=.tup (qX xs lo hi)) (λb ob q=>Ly _ q) (IJ _) ?_,rfl,q _ (I.hok.fresh (IJ _))⟩;exact⟨Iy (kP xs lo hi) hz,_,(r.drop (HT.sIx xs.length 0 lo)).take (HT.sIx xs.length xs.length hi-HT.sIx xs.length 0 lo),IsTup.new _ _⟩
noncomputable def Fd(K:KZ):R2:=λx y H Q=>∃a b xs ys,x=.ref a/\y=.ref b/\mK K H a xs/\mK K H b ys/\xs≠[]/\xs.length+ys.length<=Mk/\
 (ys=[]->Q (.ref a) H)/\(ys≠[]->∀p,H p=none->Q (.ref p) (upd H p (.tup (xs++ys))))
theorem Vals.nil_iff{xs:aB}{us:aF}(r:Vals xs us):us=[]↔xs=[]:=by
 cases r with
 |nil=>simp
 |cons _ _=>simp
theorem zS:jj X (MA .Add) (Fd X.K):=by
 intro pins s σ H x y v u Q I rx ry h;obtain⟨a,b,xs,ys,rfl,rfl,ha,hb,hx,hz,q1,q2⟩:=h;cases rx;cases ry;obtain⟨its,r1,p1,_⟩:=I.tuple ha;obtain⟨its2,r2,p2,_⟩:=I.tuple hb;refine HT.F9 p1 p2 (λz=>hx (r1.nil_iff.mp z)) (λz=>⟨.ref a,H,I,rfl,q1 (r2.nil_iff.mp z)⟩) (λz=>?_) (by rw[<-r1.length,<-r2.length];exact hz);refine⟨.ref s.heap.objs.size,_,I.laid (t':=s.toks) (o:=.tup (xs++ys)) (λb ob q=>Ly _ q) (IJ _) ?_,rfl,q2 (λw=>z (r2.nil_iff.mpr w)) _ (I.hok.fresh (IJ _))⟩;exact⟨by rw[IY];exact hz,_,r1.append r2,IsTup.new _ _⟩
end
noncomputable def zX(n:Nat)(i:Int):Option Nat:=if 0<=i then(if i<n then some i.toNat else none)else if -(n:Int)<=i then some (i+n).toNat else none
noncomputable def jH{α:Type}(xs:List α)(i:Int):Option α:=(zX xs.length i).bind λj=>xs[j]?
theorem zP{n:Nat}{i:Int}{j:Nat}(h:zX n i=some j):seqIndex? i n=some j/\j<n/\-(n:Int)<=i/\i<n:=by
 unfold zX at h;by_cases h0:0<=i
 ·rw[if_pos h0]at h;by_cases h1:i<n
  ·rw[if_pos h1]at h;have e:i.toNat=j:=Option.some.inj h;exact⟨by rw[seqIndex_of h0 h1,e],by omega,by omega,h1⟩
  ·rw[if_neg h1]at h;cases h
 ·rw[if_neg h0]at h;by_cases h1:-(n:Int)<=i
  ·rw[if_pos h1]at h;have e:(i+n).toNat=j:=Option.some.inj h;exact⟨by rw[seqIndex_neg `o h1,e],by omega,h1,by omega⟩
  ·rw[if_neg h1]at h;cases h
theorem pD{α:Type}{xs:List α}{i:Int}{v:α}(h:jH xs i=some v):∃j,seqIndex? i xs.length=some j/\xs[j]?=some v/\j<xs.length/\-(xs.length:Int)<=i/\i<xs.length:=by
 unfold jH at h;cases e:zX xs.length i with
 |none=>rw[e]at h;cases h
 |some j=>
  rw[e]at h;obtain⟨h1,h2,h3,h4⟩:=zP e;exact⟨j,h1,h,h2,h3,h4⟩
theorem uz{α:Type}{xs:List α}{j:Nat}{v:α}(h:xs[j]?=some v):jH xs (j:Int)=some v:=by
 have hj:j<xs.length:=(List.getElem?_eq_some_iff.mp h).1;have e:zX xs.length (j:Int)=some j:=by
  unfold zX;rw[if_pos `o,if_pos `o];simp
 unfold jH;rw[e];exact h
noncomputable def jx(b:Mb):Prop:=∀o i,subscripted b false o i=operate [o,i] (getItem o i)
noncomputable def Fv(X:Cx)(r:R2):Prop:=
 ∀(value slice:Mb)(pins:aG)(s:Mf)(σ:St)(H:Hp)(x y:V)(v u:L8)(Q:VK),Inv X pins σ H s->RelV x v->RelV y u->r x y H Q->
  subscripted slice false v u=operate [v,u] (getItem v u)->Mr `i X.A (subscriptTail value slice v u) (EP X pins σ Q) X.xe s
noncomputable def Ie(X:Cx)(id:String)(r:V->aB->Hp->VK->Prop):Prop:=
 ∀(pins:aG)(s:Mf)(σ:St)(H:Hp)(x:V)(xs:aB)(v:L8)(us:aF)(Q:VK),Inv X pins σ H s->RelV x v->Vals xs us->r x xs H Q->
  Mr `i X.A (call (.builtin id) (v::us)) (EP X pins σ Q) X.xe s
section
variable{X:Cx}{a b:Mb}{ta tb:TE}{pos:Pos}
theorem xQ{r:R2}(hr:Fv X r)(ha:PE X a ta)(hb:PE X b tb)(hs:jx b):PE X (.Subscript a b pos) (FJ r ta tb):=by
 intro pins s σ H Q I h;exact Subscript_ (CT ha hb I h λv u s2 x y H2 I2 rx ry q=>hr a b pins s2 σ H2 x y v u Q I2 rx ry q (hs _ _))
noncomputable def GR(K:KZ):R2:=λx y H Q=>∃p xs i v,x=.ref p/\y=.int i/\jG K H p xs/\jH xs i=some v/\Q v H
noncomputable def G2(K:KZ):R2:=λx y H Q=>∃p xs i v,x=.ref p/\y=.int i/\mK K H p xs/\jH xs i=some v/\Q v H
noncomputable def GY:R2:=λx y H Q=>∃z i c,x=.str z/\y=.int i/\z.length<=Mk/\jH z.cps.toList i=some c/\Q (.str ⟨#[c]⟩) H
theorem oz:Fv X (GR X.K):=by
 intro value slice pins s σ H x y v u Q I rx ry h hs;obtain⟨p,xs,i,z,rfl,rfl,hq,he,q⟩:=h;cases rx;obtain⟨t,rfl⟩:=ry;obtain⟨its,r,pl,hz⟩:=I.list hq;obtain⟨j,h1,h2,h3,h4,h5⟩:=pD he;obtain⟨w,ew,rw'⟩:=r.get h2;have hl:=r.length;have hn:=jM;have fin:EP X pins σ Q w s:=⟨z,H,I,rw',q⟩
 by_cases h0:0<=i
 ·have hj:i.toNat=j:=by
   rw[seqIndex_of h0 h5]at h1;exact Option.some.inj h1
  exact item_listR pl.isList h0 `o (by rw[hj];simpa using ew) fin hs
 ·have hj:(i+(its.toArray.size:Int)).toNat=j:=by
   rw[seqIndex_neg `o h4]at h1;rw[IL,<-hl];exact Option.some.inj h1
  exact subscriptTail_builtinR (x:=w) pl.isList.typeIs slot_list_getitem.lookup
   (wpAny_getItem_list_neg (Q:=λr s'=>r=w/\EP X pins σ Q r s') pl.isList `o (by rw[IL]<;>omega) `o (by rw[hj];simpa using ew) ⟨rfl,fin⟩) hs
theorem Ea:Fv X (G2 X.K):=by
 intro value slice pins s σ H x y v u Q I rx ry h hs;obtain⟨p,xs,i,z,rfl,rfl,hq,he,q⟩:=h;cases rx;obtain⟨t,rfl⟩:=ry;obtain⟨its,r,pl,hz⟩:=I.tuple hq;obtain⟨j,h1,h2,h3,h4,h5⟩:=pD he;obtain⟨w,ew,rw'⟩:=r.get h2;have hl:=r.length;have hn:=jM;have fin:EP X pins σ Q w s:=⟨z,H,I,rw',q⟩
 exact subscriptTail_builtinR (x:=w) pl.typeIs slot_tuple_getitem.lookup
  (getItem_tuple (j:=j) (Q:=λr s'=>r=w/\EP X pins σ Q r s') pl `o `o (by rw[IL,<-hl];exact h1) (by simpa using ew) ⟨rfl,fin⟩) hs
theorem CN:Fv X GY:=by
 intro value slice pins s σ H x y v u Q I rx ry h hs;obtain⟨z,i,c,rfl,rfl,hz,he,q⟩:=h;obtain⟨t,rfl⟩:=rx;obtain⟨t',rfl⟩:=ry;obtain⟨j,h1,h2,h3,h4,h5⟩:=pD he;have hl:z.cps.toList.length=z.length:=by simp[Str.length]
 rw[hl]at h1 h4 h5;have hn:=jM;exact tail_any (typeIs_str s z t) slot_str_getitem.lookup (getItem_str (c:=c) (by
  have e1:decide (i < -(2^63:Int))=false:=decide_eq_false `o;have e2:decide (i>=2^63)=false:=decide_eq_false `o;rw[e1,e2,Bool.or_false]) (by rw[h1];simpa using h2) ⟨.str ⟨#[c]⟩,H,I.tok _,⟨_,rfl⟩,q⟩) hs
theorem oV(lo hi:bX)(n:Nat):(sliceBounds lo hi none n).1=((HT.sIx n 0 lo:Nat):Int)/\(sliceBounds lo hi none n).2.1=((HT.sIx n n hi:Nat):Int)/\(sliceBounds lo hi none n).2.2=1:=by
 refine⟨?_,?_,rfl⟩
 ·cases lo with
  |none=>simp[sliceBounds,HT.sIx]
  |some i=>
   simp only[sliceBounds,HT.sIx,Jd,show(1:Int)>0 by decide,if_true];by_cases h:i<0
   ·simp only[h,if_true]<;>omega
   ·simp only[h,if_false]<;>omega
 ·cases hi with
  |none=>simp[sliceBounds,HT.sIx]
  |some i=>
   simp only[sliceBounds,HT.sIx,Jd,show(1:Int)>0 by decide,if_true];by_cases h:i<0
   ·simp only[h,if_true]<;>omega
   ·simp only[h,if_false]<;>omega
theorem mP(its:aF)(lo hi:bX):slicePick its.toArray lo hi none=((its.drop (HT.sIx its.length 0 lo)).take (HT.sIx its.length its.length hi-HT.sIx its.length 0 lo)).toArray:=by
 obtain⟨h1,h2,h3⟩:=oV lo hi its.toArray.size;unfold slicePick;rw[h1,h2,h3];simp only[sliceRange_one,pick_run,IL]<;>rfl
noncomputable def Gz(K:KZ):V->bX->bX->Hp->VK->Prop:=λx lo hi H Q=>∃a xs,x=.ref a/\jG K H a xs/\∀p,H p=none->Q (.ref p) (upd H p (.lst (qX xs lo hi)))
theorem zA:F6 X (Gz X.K):=by
 intro pins s σ H x v vl vu lo hi sl Q I rx hs pl pu h;obtain⟨a,xs,rfl,hx,q⟩:=h;cases rx;obtain⟨its,r,ht,hz⟩:=I.list hx;have hlen:=r.length;refine⟨"list",_,slot_list_getitem.lookup,ht.isList.typeIs,?_⟩;refine wpAny_getItem_list_slice ht.isList hs pl pu .none (by simp) ?_ (by rw[IL]<;>omega);rw[mP,<-hlen];refine⟨.ref s.heap.objs.size,_,I.laid (t':=s.toks) (o:=.lst (qX xs lo hi)) (λb ob q=>Ly _ q) (IJ _) ?_,rfl,q _ (I.hok.fresh (IJ _))⟩;exact⟨Iy (kP xs lo hi) hz,_,0,(r.drop (HT.sIx xs.length 0 lo)).take (HT.sIx xs.length xs.length hi-HT.sIx xs.length 0 lo),Lz _ rfl⟩
noncomputable def wu:V->Bool
 |.non=>true
 |.bl _=>true
 |.int _=>true
 |.str _=>true
 |_=>false
noncomputable def GW:V->V->Bool
 |.non,.non=>true
 |.bl a,.bl b=>a==b
 |.bl a,.int b=>(if a then 1 else 0)==b
 |.int a,.bl b=>a==(if b then 1 else 0)
 |.int a,.int b=>a==b
 |.str a,.str b=>a==b
 |_,_=>false
theorem Ct{A:Mo}{s:Mf}{y x:V}{u v:L8}(ry:RelV y u)(rx:RelV x v)(fy:wu y=true)(fx:wu x=true):SeqAt.EqAt A s u v (GW y x):=by
 cases y with
 |non=>
  cases ry;cases x with
  |non=>cases rx;exact SeqAt.EqAt.same _
  |bl b=>cases rx;exact SeqAt.EqAt.none_bool b
  |int b=>obtain⟨t,rfl⟩:=rx;exact SeqAt.EqAt.none_int b t
  |str b=>obtain⟨t,rfl⟩:=rx;exact SeqAt.EqAt.none_str b t
  |_=>exact absurd (show false=true from fx) II
 |bl a=>
  cases ry;cases x with
  |non=>cases rx;exact SeqAt.EqAt.bool_none a
  |bl b=>cases rx;exact SeqAt.EqAt.bool_bool a b
  |int b=>obtain⟨t,rfl⟩:=rx;exact SeqAt.EqAt.bool_int a b t
  |str b=>obtain⟨t,rfl⟩:=rx;exact SeqAt.EqAt.bool_str a b t
  |_=>exact absurd (show false=true from fx) II
 |int a=>
  obtain⟨t',rfl⟩:=ry;cases x with
  |non=>cases rx;exact SeqAt.EqAt.int_none a t'
  |bl b=>cases rx;exact SeqAt.EqAt.int_bool a t' b
  |int b=>obtain⟨t,rfl⟩:=rx;exact SeqAt.EqAt.int_int a t' b t
  |str b=>obtain⟨t,rfl⟩:=rx;exact SeqAt.EqAt.int_str a t' b t
  |_=>exact absurd (show false=true from fx) II
 |str a=>
  obtain⟨t',rfl⟩:=ry;cases x with
  |non=>cases rx;exact SeqAt.EqAt.str_none a t'
  |bl b=>cases rx;exact SeqAt.EqAt.str_bool a t' b
  |int b=>obtain⟨t,rfl⟩:=rx;exact SeqAt.EqAt.str_int a t' b t
  |str b=>obtain⟨t,rfl⟩:=rx;exact SeqAt.EqAt.str_str a t' b t
  |_=>exact absurd (show false=true from fx) II
 |_=>exact absurd (show false=true from fy) II
theorem jg:dz X (.builtin "len") (λxs H Q=>∃p ys,xs=[.ref p]/\(jG X.K H p ys\/mK X.K H p ys)/\Q (.int ys.length) H):=by
 intro pins s σ H xs us Q I r h;obtain⟨p,ys,rfl,hq,q⟩:=h;obtain⟨u,rfl,rx⟩:=vals1 r;cases rx;have hn:=jM;rcases hq with hq|hq
 ·obtain⟨its,r',pl,hz⟩:=I.list hq;have hlen:=r'.length;exact Calls.call_len_list pl.isList (by simp only[IL]<;>omega) ⟨.int ys.length,H,I.tok _,⟨s.toks+1,by rw[IL,hlen]⟩,q⟩
 ·obtain⟨its,r',pl,hz⟩:=I.tuple hq;have hlen:=r'.length;exact len_tuple pl (by simp only[IL]<;>omega) ⟨.int ys.length,H,I.tok _,⟨s.toks+1,by rw[IL,hlen]⟩,q⟩
theorem pg:dz X (.builtin "len") (λxs H Q=>∃z,xs=[.str z]/\z.length<=Mk/\Q (.int z.length) H):=by
 intro pins s σ H xs us Q I r h;obtain⟨z,rfl,hz,q⟩:=h;obtain⟨u,rfl,t,rfl⟩:=vals1 r;have hn:=jM;exact len_str `o ⟨.int z.length,H,I.tok _,⟨_,rfl⟩,q⟩
theorem fS:dz X (.type "list") (λxs H Q=>∃p ys,xs=[.ref p]/\(jG X.K H p ys\/mK X.K H p ys)/\∀l,H l=none->Q (.ref l) (upd H l (.lst ys))):=by
 intro pins s σ H xs us Q I r h;obtain⟨p,ys,rfl,hq,q⟩:=h;obtain⟨u,rfl,rx⟩:=vals1 r;cases rx;have fin:∀(its:aF),Vals ys its->ys.length<=Mk->∀(h':Mj)(c':Nat),(∀b o',s.heap.get? b=some o'->h'.get? b=some o')->
   h'.get? s.heap.objs.size=some {cls:=.type "list",dict:=none,data:=.seq its.toArray c',slots:=#[]}->EP X pins σ Q (.ref s.heap.objs.size) {s with heap:=h'}:=λits r' hz h' c' kp e=>
  ⟨.ref s.heap.objs.size,_,I.laid (t':=s.toks) kp (IJ _) (show a7 X.prog X.w _ h' _ (.lst ys)from⟨hz,its,c',r',e⟩),rfl,q _ (I.hok.fresh (IJ _))⟩
 rcases hq with hq|hq
 ·obtain⟨its,r',pl,hz⟩:=I.list hq;have hlen:=r'.length;obtain⟨o,ho,hc,n,hd⟩:=pl.isList;exact call_list_seq p (.inl rfl) ho hc hd (λh' c' kp e=>fin its r' hz h' c' kp e) (by simp only[IL]<;>omega)
 ·obtain⟨its,r',pl,hz⟩:=I.tuple hq;have hlen:=r'.length;obtain⟨o,ho,hc,n,hd⟩:=pl;exact call_list_seq p (.inr rfl) ho hc hd (λh' c' kp e=>fin its r' hz h' c' kp e) (by simp only[IL]<;>omega)
theorem iY:dz X (.type "tuple") (λxs H Q=>∃p ys,xs=[.ref p]/\((jG X.K H p ys/\∀l,H l=none->Q (.ref l) (upd H l (.tup ys)))\/(mK X.K H p ys/\Q (.ref p) H))):=by
 intro pins s σ H xs us Q I r h;obtain⟨p,ys,rfl,h⟩:=h;obtain⟨u,rfl,rx⟩:=vals1 r;cases rx;rcases h with⟨hq,q⟩|⟨hq,q⟩
 ·obtain⟨its,r',pl,hz⟩:=I.list hq;have hlen:=r'.length;refine call_tuple_list pl.isList (λh' kp=>?_) (by simp only[IL]<;>omega);have I1:Inv X pins σ H {s with heap:=h'}:=I.kept (t':=s.toks) kp;have I2:Inv X pins σ (upd H h'.objs.size (.tup ys)) {s with heap:=h'.push {cls:=.type "tuple",data:=.seq its.toArray}}:=
   I1.laid (t':=s.toks) (λb o e=>Ly _ e) (IJ _) (show a7 X.prog X.w _ _ _ (.tup ys)from⟨hz,its,r',IsTup.new _ _⟩)
  exact⟨.ref h'.objs.size,_,I2,rfl,q _ (I1.hok.fresh (IJ _))⟩
 ·obtain⟨its,r',pl,hz⟩:=I.tuple hq;exact call_tuple_same pl ⟨.ref p,H,I,rfl,q⟩
noncomputable def HI(K:KZ)(T:String)(x:V)(H:Hp):Prop:=match x with
 |.str _=>T="str"
 |.int _=>T="int"
 |.ref p=>(T="list"/\∃xs,jG K H p xs)\/(T="tuple"/\∃o,K.lookup p=some o/\o.cls=.type "tuple"/\o.dict=none) \/
   (T="dict"/\((∃kvs,H p=some (.dK kvs))\/∃kvs,H p=some (.dT kvs)))\/(T="set"/\∃S n,H p=some (.set S n))
 |_=>False
theorem Dr{pins:aG}{σ:St}{H:Hp}{s:Mf}{T:String}{x:V}{v:L8}(I:`h)(r:RelV x v)(ty:HI X.K T x H):
  s.TypeIs v T/\∀a,v=.ref a->∃ob,s.heap.get? a=some ob/\ob.dict=none:=by
 cases x with
 |str z=>
  obtain⟨t,rfl⟩:=r;cases(show T="str"from ty);exact⟨typeIs_str s z t,λ_ e=>nomatch e⟩
 |int i=>
  obtain⟨t,rfl⟩:=r;cases(show T="int"from ty);exact⟨typeIs_int s i t,λ_ e=>nomatch e⟩
 |ref p=>
  cases r;rcases ty with⟨rfl,xs,hq⟩|⟨rfl,o,hk,hc,hd⟩|⟨rfl,hk⟩|⟨rfl,S,n,hk⟩
  ·obtain⟨its,_,pl,_⟩:=I.list hq;refine⟨pl.isList.typeIs,λa e=>?_⟩;cases e;obtain⟨o,n,e,c,hd,_⟩:=pl;exact⟨o,e,hd⟩
  ·refine⟨⟨o,I.kIn p o hk,hc⟩,λa e=>?_⟩;cases e;exact⟨o,I.kIn _ o hk,hd⟩
  ·have z:∃o,s.heap.get? p=some o/\o.ExactDict:=by
    rcases hk with⟨kvs,hk⟩|⟨kvs,hk⟩
    ·obtain⟨_,_,_,_,o,_,_,e,ex,_⟩:=I.hok p _ hk;exact⟨o,e,ex⟩
    ·obtain⟨_,_,_,_,o,_,_,e,ex,_⟩:=I.hok p _ hk;exact⟨o,e,ex⟩
   obtain⟨o,e,ex⟩:=z;refine⟨⟨o,e,ex.1⟩,λa e2=>?_⟩;cases e2;exact⟨o,e,ex.2.1⟩
  ·obtain⟨o,_,_,_,e,ex,_⟩:=I.hok p _ hk;refine⟨⟨o,e,ex.1⟩,λa e2=>?_⟩;cases e2;exact⟨o,e,ex.2.1⟩
 |_=>exact False.elim ty
noncomputable def Ik(K:KZ)(T:String)(r:V->aB->Hp->VK->Prop)(to:TE)(t:TA):TE:=λσ H Q=>to σ H λx H1=>HI K T x H1/\t σ H1 λxs H2=>r x xs H2 Q
variable{o e:Mb}{es:aX}{to:TE}{t:TA}{name:Str}{apos cpos:Pos}{T id:String}{r:V->aB->Hp->VK->Prop}
theorem BU(pa:PlainAttrs T)(slot:Slot T name id)(hty:typeOf (.builtin id)=pure (.type "method_descriptor"))(hm:Ie X id r)(ho:PE X o to)(ha:PA X (e::es) t)
  (hbase:ME o name X.env (eval o X.env)=eval o X.env:=by rfl)
  (hfew:((backTo cpos (Ms (e::es) X.env)).all (fun x=>!x.1) && (backToKw cpos (MV [] X.env)).all (fun x=>x.1.isSome)
   && decide ((e::es).length+([]:List MX).length+(if([]:List MX).isEmpty then 0 else 1)<30))=true:=by rfl)
  (hline:(apos.endLine==cpos.line)=true:=by rfl) (hs:Ms (e::es) X.env=(false,eval e X.env)::Ms es X.env:=by rfl) (hplain:(backTo cpos (Ms es X.env)).any (·.1)=false:=by rfl):
  PE X (.Call (.Attribute o name apos) (e::es) [] cpos) (Ik X.K T r to t):=by
 intro pins s σ H Q I h;refine wpAny_Call_method_late hbase hfew hline rfl (cg (ho pins s σ H _ I h) λv s1 zq=>zq.elim λx zq=>zq.elim λH1 zq=>zq.elim λI1 zq=>zq.elim λr1 zq=>zq.elim λty q1=>?_);obtain⟨h1,h2⟩:=Dr I1 r1 ty;refine⟨T,id,pa,slot,hty,h1,h2,?_⟩;have hA:=ha cpos pins s1 σ H1 _ I1 q1;rw[hs]at hA ⊢;refine Calls.callWith_builtin (by show(false||(backTo cpos (Ms es X.env)).any (·.1))=false;rw[hplain]<;>rfl) (Calls.evalArgs_plain ?_);exact cg hA λus s2 zq=>zq.elim λvs zq=>zq.elim λH2 zq=>zq.elim λI2 zq=>zq.elim λr2 q2=>hm pins s2 σ H2 x vs v us Q I2 r1 r2 q2
end
noncomputable def Hh(X:Cx)(id:String)(r:V->aB->Hp->VK->Prop):Prop:=
 ∀(pins:aG)(s:Mf)(σ:St)(H:Hp)(x:V)(xs:aB)(v:L8)(us:aF)(Q:VK),Inv X pins σ H s->RelV x v->Vals xs us->r x xs H Q->
  Mr `i X.A (call (.builtin id) (v::us)) (EP X pins σ Q) X.xe s
theorem Vals.one{x:V}{us:aF}(h:Vals [x] us):∃u,us=[u]/\RelV x u:=by
 cases h with|cons r t=>
 cases t;exact⟨_,rfl,r⟩
theorem Vals.two{x y:V}{us:aF}(h:Vals [x,y] us):∃u v,us=[u,v]/\RelV x u/\RelV y v:=by
 cases h with|cons r t=>
 obtain⟨v,rfl,q⟩:=Vals.one t;exact⟨_,_,rfl,r,q⟩
section
variable{X:Cx}{pins:aG}{σ:St}{H:Hp}{s:Mf}{l b:Ma}{xs ys zs:aB}
theorem Inv.lset{its its':aF}{n:Nat}{f:Array L8->Array L8}{t':Nat}(I:`h)(hH:H l=some (.lst xs))
  (e:s.heap.get? l=some {cls:=.type "list",data:=.seq its.toArray n}) (hf:f its.toArray=its'.toArray) (hv:Vals ys its') (hz:ys.length<=Mk):
  Inv X pins σ (upd H l (.lst ys)) {s with heap:=s.heap.update l (Obj.mapSeq f),toks:=t'}:=by
 have q:=PySem.IsL.update e f;rw[hf]at q;refine I.write (x:=l) (e:=l) (by rw[hH];exact trivial) (.inl rfl) (λb' u hb hu=>(Heap.get?_update_other s.heap (Obj.mapSeq f) (Ne.symm hb)).trans hu) ⟨_,q⟩ ?_;exact⟨hz,its',_,hv,q⟩
theorem Inv.lnew{its:aF}{t':Nat}(I:`h)(hv:Vals ys its)(hz:ys.length<=Mk):
  Inv X pins σ (upd H s.heap.objs.size (.lst ys)) {s with heap:=s.heap.push {cls:=.type "list",data:=.seq its.toArray},toks:=t'}:=
 I.laid (λ_ _ q=>Ly _ q) (IJ _) ⟨hz,its,0,hv,Lz _ rfl⟩
theorem Inv.fresh(I:`h):H s.heap.objs.size=none:=I.hok.fresh (IJ _)
theorem Inv.lstM(I:`h)(hH:H l=some (.lst xs)):xs.length<=Mk/\∃(its:aF)(n:Nat),Vals xs its/\xs.length=its.length/\s.heap.get? l=some {cls:=.type "list",data:=.seq its.toArray n}:=by
 obtain⟨z,its,n,r,e⟩:=I.hok l _ hH;exact⟨z,its,n,r,r.length,e⟩
end
section
variable{X:Cx}
noncomputable def tR:V->aB->Hp->VK->Prop:=λx vs H Q=>∃l xs y,x=.ref l/\vs=[y]/\H l=some (.lst xs)/\xs.length<Mk/\Q .non (upd H l (.lst (xs++[y])))
theorem ny:Hh X "list.append" tR:=by
 intro pins s σ H x vs v us Q I rx rv h;obtain⟨l,xs,y,rfl,rfl,hH,hz,q⟩:=h;cases rx;obtain⟨u,rfl,ru⟩:=rv.one;obtain⟨z,its,n,r,hl,e⟩:=I.lstM hH;refine call_meets F.slot_list_append ⟨_,e,rfl⟩ F.entry_list_append (F.args_list_append_2 _ _) (PySem.list_append l its.toArray n u (by rw[IL];omega)) ⟨e,?_⟩;refine⟨.non,_,I.lset (its':=its++[u]) hH e (by simp) (r.append (.cons ru .nil)) ?_,rfl,q⟩;rw[IY,Je];omega
end
end L2
namespace Att
open PySem PySem.W PySem.Calls PyProof.Rows
theorem kX{P:Params}{h:Mj}:∀(ns:List Int)(vs:List L8),WellAll P h vs (ns.map WData.int)->IntsAre vs ns:=by
 intro ns
 induction ns with
 |nil=>
  intro vs w;rw[Jf]at w;cases w;exact .nil
 |cons n ns ih=>
  intro vs w;rw[Jg]at w;cases w with
  |cons a b=>
   cases a;exact .cons _ _ (ih _ b)
theorem v5{l:OpenLaw}{n:Nat}(hn:l.most=some n){P:Params}{h:Mj}{args:List WData}{vals:List L8}
  (hpre:l.row.toRowW.claim.pre args=true) (hwl:WellAll P h vals args):
  ∃a vs ns,vals=[Value.ref a]/\args=[WData.list (ns.map WData.int)]/\h.get? a=some {cls:=.type "list",data:=.seq vs.toArray}/\IntsAre vs ns/\ns.length<=n:=by
 have hsh:WShape.hasAll [] args [.list .int]=true:=(pre_splitW hpre).1;have hc:l.pre.holds [] {args:=args}=true:=(pre_splitW hpre).2;obtain⟨d,r,rfl,h1,h2⟩:=hasAllW_cons hsh;obtain rfl:=hasAllW_nil h2;obtain⟨xs,rfl,h3⟩:=hasW_list h1;obtain⟨ns,rfl⟩:=items_int h3;have hlen:ns.length<=n:=by
  unfold OpenLaw.pre at hc;have h4:(WTm.not (.lt (.lit (.int (n:Int))) (.len (.arg 0)))).holds [] {args:=[.list (ns.map .int)]}=true:=by
   have h4:=(holds_andW hc).1;rw[hn]at h4;exact h4
  have h5:=condW_of h4 (w_not (w_lt w_lit (w_len_list (w_arg rfl))));rw[IZ]at h5;refine Jh λq=>?_;have q':(n:Int)<((ns.length:Nat):Int):=by omega
  first
   |(rw[decide_eq_true q']at h5;exact absurd h5 (by decide))
   |(simp at h5;omega)
 cases hwl with
 |cons w1 w2=>
  cases w2;cases w1 with
  |list ho hall=>exact⟨_,_,ns,rfl,rfl,ho,kX ns _ hall,hlen⟩
theorem uW(l:OpenLaw)(args:List WData):l.row.toRowW.claim.post args (.bool true) args=true:=
 postW_of (r:=l.row.toRowW) (X:=(true==true))
  (show WShape.has [] (.bool true) .bool=true by first|rfl|decide|simp[WShape.has,WShape.arms,WShape.armsAll])
  (show(WTm.eq .res (.lit (.bool true))).value [] {args:=args,res:=some (.bool true),after:=args}=some (.bool (true==true))from w_eq_bool (w_res rfl) w_lit) rfl
theorem BQ{l:OpenLaw}{n:Nat}{q:Mh}{loose:List Str}{XP:(Str->Option L8)->Mj->Prop}{YP:Mg->Mj->Prop}{d:DefRec}
  (hn:l.most=some n) (hdf:d.params.defaults=[])
  (call:∀ (w:Mg) (s₀ s₁:Mf) (mg mb:Str->Option L8) (fa:Ma) (o:Obj) (pm cd doc:L8) (a:Ma) (vs:List L8) (ns:List Int),
   Ground q loose [] XP w s₀ mg mb s₁.heap->YP w s₁.heap->
   s₁.heap.get? fa=some o->o.data=.func (docDef d.name d.params d.body d.scope pm cd doc)->s₁.heap.CodeRec cd d.name->mg d.name=some (.ref fa)->
   s₁.heap.get? a=some {cls:=.type "list",data:=.seq vs.toArray}->IntsAre vs ns->ns.length<=n->s₁.gens=#[]->
   MJ (model l.prog w) callerA (.call (.ref fa) ⟨[.ref a],[]⟩) (λr s'=>r=.ok (.ret (.bool true))/\OldK s₁.heap s'.heap/\s'.os=s₁.os/\AllBare s'.gens) s₁):
  WalkO q loose XP YP l.row.toRowW d [] (λf vs=>PySem.call f vs):=by
 intro w s₀ s₁ mg mb G Y fa o pm cd doc dV kV ho hd hcd hD hmg hg args vals as hpre hlay hrd hwl hlo;obtain rfl:dV=.none:=Dflts.none hD hdf;obtain rfl:kV=.none:=Dflts.noKw hD;obtain⟨a,vs,ns,rfl,rfl,hobj,hints,hlen⟩:=v5 hn hpre hwl;refine enter_call (MY (call w s₀ s₁ mg mb fa o pm cd doc a vs ns G Y ho (fd_plain hd) hcd hmg hobj hints hlen hg) λr s' hq=>?_);obtain⟨rfl,h2,h3,h4⟩:=hq;exact⟨.inl ⟨.bool true,.bool true,[],rfl,λ_=>rfl,.bool true,uW l _,λ_=>⟨List.Pairwise.nil,λ_ hm=>(nomatch hm)⟩⟩,h2,h3,h4⟩
section
variable{prog:Mh}{w:Mg}{A:Mo}{E:L8->Mf->Prop}{s:Mf}{K:Frag}
end
end Att
namespace L2
open PySem PySem.Spec PyProof.Rows
theorem m4:∀{vs:aF}{ns:List Int},IntsAre vs ns->Vals (ns.map V.int) vs
 |_,_,.nil=>.nil
 |_,_,.cons n t h=>.cons ⟨t,rfl⟩ (m4 h)
noncomputable def Only(H:Hp):Prop:=∀b,H b=none\/∃o xs,H b=some (.frz o (.lst xs))
theorem xM{P:Mh}{w:Mg}{K:KZ}{mg mb:bU}{CX:t5}{k:Nat}{fa a:Ma}{fd:MH}{x:Str}{sp:Sp}{s₁:Mf}{vs:aF}{ns:List Int}
  (KX:K.In s₁.heap) (hns:s₁.heap.Ns Ml mg) (hb:s₁.heap.Ns builtinsNs mb) (hbb:∀x:Str,x≠"__name__"->mb x=Mm x) (hlim:s₁.heap.NoLimit) (hg:s₁.gens=#[])
  (ha:s₁.heap.get? a=some {cls:=.type "list",data:=.seq vs.toArray}) (hi:IntsAre vs ns) (hl:ns.length<=Mk) (hr:eQ k callerA)
  (F:∀base:Mj,K.In base->base.Ns Ml mg->iW P w K mg base CX k fa fd [x] sp) (hbind:∀(s:Mf)(u:L8),MI s fd ⟨[u],[]⟩ [(x,u)])
  (hsp:∀H:Hp,Only H->jG K H a (ns.map V.int)->sp [.ref a] H (λv _=>v=.bl true) λ_ _ _=>False)
  (hCX:∀H e s',CX [] H s₁ (λ_ _ _=>False) e s'->False):
  MJ (model P w) callerA (.call (.ref fa) ⟨[.ref a],[]⟩) (λr s'=>r=.ok (.ret (.bool true))/\OldK s₁.heap s'.heap/\s'.os=s₁.os/\AllBare s'.gens) s₁:=by
 have rv:=m4 hi;have lenV:=hi.length;have core:∀H:Hp,Only H->jG K H a (ns.map V.int)->kN P w H s₁.heap->(∀b,H b≠none->b=a)->(H a≠none->K.lookup a=none)->
   MJ (model P w) callerA (.call (.ref fa) ⟨[.ref a],[]⟩) (λr s'=>r=.ok (.ret (.bool true))/\OldK s₁.heap s'.heap/\s'.os=s₁.os/\AllBare s'.gens) s₁:=by
  intro H hO hS hok hA hK;have base_of:∀{b:Ma}{o:Obj},s₁.heap.get? b=some o->H b=none->(kR s₁.heap H).get? b=some o:=λe n=>qI e n;have noA:∀{b:Ma}{o:Obj}{es:Array MZ}{ep:Nat},s₁.heap.get? b=some o->o.data=.dict es ep->H b=none:=λ{b o es ep} e d=>by
   cases q:H b with
   |none=>rfl
   |some u=>
    have e':b=a:=hA b (by rw[q];simp);subst e';rw[ha]at e;cases e;have d':Data.seq vs.toArray _=Data.dict es ep:=d;cases d'
  have nsK:∀{b:Ma}{m:bU},s₁.heap.Ns b m->(kR s₁.heap H).Ns b m:=λ{b m} ⟨o,es,ep,e,d,r⟩=>⟨o,es,ep,base_of e (noA e d),d,r⟩
  have hKb:K.In (kR s₁.heap H):=λb o e=>base_of (KX b o e) (by
   cases q:H b with
   |none=>rfl
   |some u=>
    have e':b=a:=hA b (by rw[q];simp);subst e';rw[hK (by rw[q];simp)]at e;cases e)
  have hM:Mod K mg (kR s₁.heap H):=⟨hKb,nsK hns,⟨mb,nsK hb,hbb⟩,let ⟨mc,h1,h2⟩:=hlim;⟨mc,nsK h1,h2⟩⟩
  have e0:v6 P w K mg (kR s₁.heap H) callerA [] s₁ H:=⟨rfl,hM,λb o e=>li e,Ji (vY _ _),trivial,λb hb=>absurd (show b∈([]:au)from hb) (by simp),hok,.of_eq hg⟩
  refine MY ((F _ hKb (nsK hns)).run callerA [] s₁ H ⟨[.ref a],[]⟩ [.ref a] [.ref a] _ _ hr e0 (hbind s₁ (.ref a)) (.cons rfl .nil) (hsp H hO hS)) λr s' h=>?_;cases r with
  |error e=>exact(hCX H e s' h).elim
  |ok fl=>
   cases fl with
   |next=>exact False.elim h
   |brk=>exact False.elim h
   |cont=>exact False.elim h
   |ret u=>
    obtain⟨v,H',os,bare,un,hok',r',q⟩:=h;have q':v=.bl true:=q;subst q';obtain rfl:u=Value.bool true:=r';refine⟨rfl,OldK.of_keep λb o e=>?_,os,bare⟩;cases q:H b with
    |none=>exact un.keep b o e q (by intro z;exact absurd (show b∈([]:au)from z) (by simp)) (by simp)
    |some u=>
     rcases hO b with z|⟨ob,xs,z⟩
     ·rw[q]at z;cases z
     ·have z2:=un.frzs b ob _ z;obtain⟨e1,_⟩:=hok b _ z;obtain⟨e2,_⟩:=hok' b _ z2;rw[e]at e1;cases e1;exact e2
 cases hk:K.lookup a with
 |some o=>
  have e:=KX a o hk;rw[ha]at e;cases e;refine core (λ_=>none) (λ_=>.inl rfl) (.inr ⟨_,vs.toArray,_,hk,rfl,rfl,rfl,by rw[IL,lenV];exact hl,by simpa using rv⟩) (λb u z=>by have z':(none:Option HO)=some u:=z;cases z') (λb z=>absurd rfl z) λz=>absurd rfl z
 |none=>
  refine core (λb=>if b=a then some (.frz {cls:=.type "list",data:=.seq vs.toArray} (.lst (ns.map V.int)))else none) (λb=>?_) (.inl (.inr ⟨{cls:=.type "list",data:=.seq vs.toArray},if_pos rfl⟩)) (λb u z=>?_) (λb z=>?_) λ_=>hk
  ·by_cases hb:b=a
   ·exact .inr ⟨_,_,if_pos hb⟩
   ·exact .inl (if_neg hb)
  ·by_cases hb:b=a
   ·have z':=(if_pos hb).symm.trans z;cases z';subst hb;exact⟨ha,by rw[IZ];exact hl,vs,_,rv,ha⟩
   ·have z':=(if_neg hb).symm.trans z;cases z'
  ·by_cases hb:b=a
   ·exact hb
   ·exact absurd (if_neg hb) z
theorem Ge{l:K9}{n k:Nat}{q:Mh}{loose:ay}{XP:(bU)->Mj->Prop}{YP:Mg->Mj->Prop}{d:DefRec}{K:Params->KZ}{CX:Mg->t5}{sp:Mg->Sp}{x:Str}
  (hn:l.most=some n) (hn2:n<=Mk) (hdf:d.params.defaults=[]) (hr:eQ k callerA)
  (hY:∀(w:Mg)(h:Mj),YP w h->(K w.params).In h)
  (F:∀ (w:Mg) (mg:bU) (fa:Ma) (h:Mj),(K w.params).In h->h.Ns Ml mg->mg d.name=some (.ref fa) ->
   ∃fd:MH,(∀(s:Mf)(u:L8),MI s fd ⟨[u],[]⟩ [(x,u)])/\
    ∀base:Mj,(K w.params).In base->base.Ns Ml mg->iW l.prog w (K w.params) mg base (CX w) k fa fd [x] (sp w))
  (hsp:∀(w:Mg)(H:Hp)(a:Ma)(ns:List Int),ns.length<=n->Only H->jG (K w.params) H a (ns.map V.int)->sp w [.ref a] H (λv _=>v=.bl true) λ_ _ _=>False)
  (hCX:∀(w:Mg)(H:Hp)(s:Mf)(e:L8)(s':Mf),CX w [] H s (λ_ _ _=>False) e s'->False):
  PySem.W.WalkO q loose XP YP l.row.toRowW d [] (λf vs=>PySem.call f vs):=by
 refine Att.BQ hn hdf λw s₀ s₁ mg mb fa o pm cd doc a vs ns G Y ho hd hcd hmg hobj hints hlen hg=>?_;have KX:=hY w _ Y;obtain⟨fd,hb,hF⟩:=F w mg fa _ KX G.T.g hmg;exact xM KX G.T.g G.T.b G.T.builtins G.T.nolimit hg hobj hints (Iy hlen hn2) hr hF hb (λH hO hS=>hsp w H a ns hlen hO hS) λH e s'=>hCX w H s₁ e s'
noncomputable def inClass(s:Md)(j:Nat):Md:=match s with
 |.ClassDef _ _ _ body _ _ _ _ _ _ _=>body.getD j (.Pass ⟨0,0,0,0⟩)
 |_=>.Pass ⟨0,0,0,0⟩
noncomputable def fV(s:Md):Arguments:=match s with
 |.FunctionDef _ a _ _ _ _ _ _ _ _=>a
 |_=>{posonlyargs:=[],args:=[],vararg:=none,kwonlyargs:=[],kw_defaults:=[],kwarg:=none,defaults:=[]}
noncomputable def cz(s:Md):cq:=match s with
 |.FunctionDef _ _ b _ _ _ _ _ _ _=>b
 |_=>[]
noncomputable def aC(s:Md):Mp:=match s with
 |.FunctionDef _ _ _ _ _ _ sc _ _ _=>sc
 |_=>{kind:=.function,names:=[],isGenerator:=false,isCoroutine:=false}
noncomputable abbrev Gj:t5:=λ_ _ _ _ _ _=>False
noncomputable abbrev E0:XK:=λ_ _ _=>False
structure wa(K:KZ)(x qual:Str)(st:Md)(f:Ma)(fd:MH):Prop where
 ex:∃(oc:L8)(od:Option Ma)(kV doc pm:L8)(an:Option Ma)(cdv ct:L8)(osl:Array (Option L8)),
  fd=K4 x qual (fV st) (cz st) (aC st) .none kV doc pm an cdv ct/\K.lookup f=some ⟨oc,od,.func fd,osl⟩/\K8 K cdv qual=true
 kp:La K (.ref f)=true
section
variable{P:Mh}{w:Mg}{K:KZ}{mg:bU}{base:Mj}
theorem wa.ok{x qual:Str}{st:Md}{f:Ma}{fd:MH}{N ps:ay}{k:Nat}{sp:Sp}(F:wa K x qual st f fd)(S:dq N ps (aC st))(len:∀vs H Q E,sp vs H Q E->vs.length=ps.length)
  (hbody:∀ (cdv:L8) (A:Mo) (outer:List Env) (s:Mf) (H:Hp) (vs:aB) (Q:VK) (E:XK),eQ k (A.deeper (envOfC qual (aC st) s.heap.objs.size f cdv))->sp vs H Q E ->
   ∃t,o4 (gI Gj P w K mg base N qual (aC st) f cdv A outer s H E).nox (cz st) t/\t {nx:=λ_ H'=>Q .non H',rt:=Q} (start N vs) H):iW P w K mg base Gj (k+1) f fd ps sp:=by
 obtain⟨oc,od,kV,doc,pm,an,cdv,ct,osl,rfl,lk,hcd⟩:=F.ex;refine BI lk hcd S len λA outer s H vs Q E hr hsp=>?_;obtain⟨t,h,q⟩:=hbody cdv A outer s H vs Q E hr hsp;exact⟨t,h.nox,q⟩
theorem wa.binds{x qual:Str}{st:Md}{f:Ma}{fd:MH}{ps:ay}(F:wa K x qual st f fd)
  (h:∀(kV doc pm:L8)(an:Option Ma)(cdv ct:L8)(us:aF),us.length=ps.length->bindArgs (K4 x qual (fV st) (cz st) (aC st) .none kV doc pm an cdv ct) ⟨us,[]⟩=pure (ps.zip us)):Binds K fd ps []:=by
 obtain⟨oc,od,kV,doc,pm,an,cdv,ct,osl,rfl,lk,hcd⟩:=F.ex;exact .all (h kV doc pm an cdv ct)
theorem sx{x qual:Str}{st:Md}{f:Ma}{oc:L8}{od an:Option Ma}{osl:Array (Option L8)}{kV doc pm cdv ct:L8}(l:K.lookup f=some ⟨oc,od,.func (K4 x qual (fV st) (cz st) (aC st) .none kV doc pm an cdv ct),osl⟩)
  (c:K8 K cdv qual=true) (k:La K (.ref f)=true):wa K x qual st f (K4 x qual (fV st) (cz st) (aC st) .none kV doc pm an cdv ct):=⟨⟨oc,od,kV,doc,pm,an,cdv,ct,osl,rfl,l,c⟩,k⟩
end
section
variable{X:Cx}
theorem pv(i:Nat){x:Str}{pos:Pos}(hN:X.N[i]?=some x:=by rfl)(hv:Dk X.env.scope x:=by first|exact Or.inl rfl|exact Or.inr (Or.inl rfl)|exact Or.inr (Or.inr rfl))(hd:(x==("__debug__":Str))=false:=by decide)
  (hcd:(x==("__classdict__":Str))=false:=by decide):PE X (.Name x pos) (xn i):=Cm hN hv hd hcd
end
theorem yK{A B:Prop}(h:B):if false=true then A else B:=by
 rw[if_neg II];exact h
theorem uF{A B:Prop}(h:A):if true=true then A else B:=by
 rw[if_pos rfl];exact h
noncomputable def aI(H H':Hp):Prop:=∀b o,H b=some o->H' b=some o
theorem aI.refl(H:Hp):aI H H:=λ_ _ h=>h
theorem aI.trans{H H1 H2:Hp}(a:aI H H1)(b:aI H1 H2):aI H H2:=λc o h=>b c o (a c o h)
theorem aI.free{H H':Hp}(e:aI H H'){l:Ma}(h:H' l=Option.none):H l=Option.none:=by
 cases q:H l with
 |none=>rfl
 |some o=>
  rw[e l o q]at h;cases h
theorem aI.seq{K:KZ}{H H':Hp}{a:Ma}{xs:aB}(e:aI H H')(h:jG K H a xs):jG K H' a xs:=by
 rcases h with(h|⟨o,h⟩)|h
 ·exact .inl (.inl (e _ _ h))
 ·exact .inl (.inr ⟨o,e _ _ h⟩)
 ·exact .inr h
section
variable{κ:Type}[DecidableEq κ]
noncomputable def dJ(kvs:List (κ×V))(k:κ):Option V:=(kvs.find? λkv=>decide (kv.1=k)).map (·.2)
noncomputable def putK(kvs:List (κ×V))(k:κ)(v:V):List (κ×V):=
 if(kvs.any λkv=>decide (kv.1=k))=true then kvs.map (λkv=>if kv.1=k then(kv.1,v)else kv)else kvs++[(k,v)]
noncomputable def je(kvs:List (κ×V))(k:κ):List (κ×V):=kvs.filter λkv=>decide (kv.1≠k)
theorem gu{p:κ×V}{r:List (κ×V)}{k:κ}(e:p.1=k):dJ (p::r) k=some p.2:=by simp[dJ,Jj,e]
theorem gF{p:κ×V}{r:List (κ×V)}{k:κ}(e:¬p.1=k):dJ (p::r) k=dJ r k:=by simp[dJ,Jj,e]
theorem qE(k:κ):∀kvs:List (κ×V),(kvs.any λkv=>decide (kv.1=k))=(dJ kvs k).isSome
 |[]=>rfl
 |p::r=>by
  rw[Jk];by_cases e:p.1=k
  ·simp only[gu e,decide_eq_true e,Bool.true_or,Option.isSome_some]
  ·rw[gF e,decide_eq_false e,Bool.false_or];exact qE k r
theorem gV(kvs:List (κ×V))(k:κ)(v:V):(putK kvs k v).length<=kvs.length+1:=by
 unfold putK;split
 ·rw[IZ];omega
 ·rw[IY,Jl,Jm];omega
theorem kZ.isSome_eq{o:Option V}{u:Option L8}(r:kZ o u):o.isSome=u.isSome:=by
 cases o with
 |none=>cases u with
  |none=>rfl
  |some _=>exact(show False from r).elim
 |some _=>cases u with
  |none=>exact(show False from r).elim
  |some _=>rfl
theorem kZ.getD{o:Option V}{u:Option L8}{d:V}{d':L8}(r:kZ o u)(rd:RelV d d'):RelV (o.getD d) (u.getD d'):=by
 cases o with
 |none=>cases u with
  |none=>exact rd
  |some _=>exact(show False from r).elim
 |some _=>cases u with
  |none=>exact(show False from r).elim
  |some _=>exact r
theorem KV.val{kvs:List (κ×V)}{vs:List (κ×L8)}(r:KV kvs vs)(k:κ):kZ (dJ kvs k) (valueAt vs k):=by
 unfold KV at r
 induction r with
 |nil=>exact True.intro
 |@cons p q ps qs h t ih=>
  obtain⟨h1,h2⟩:=h;by_cases e:p.1=k
  ·have e':q.1=k:=h1.symm.trans e;have b:valueAt (q::qs) k=some q.2:=(by simp[valueAt,Jj,e']);rw[gu e,b];exact h2
  ·have e':¬q.1=k:=λz=>e (h1.trans z);have b:valueAt (q::qs) k=valueAt qs k:=(by simp[valueAt,Jj,e']);rw[gF e,b];exact ih
theorem KV.any{kvs:List (κ×V)}{vs:List (κ×L8)}(r:KV kvs vs)(k:κ):(kvs.any λkv=>decide (kv.1=k))=vs.any λkv=>decide (kv.1=k):=by
 unfold KV at r
 induction r with
 |nil=>rfl
 |cons h t ih=>rw[Jk,Jk,ih,h.1]
theorem KV.repl{kvs:List (κ×V)}{vs:List (κ×L8)}(r:KV kvs vs)(k:κ){y:V}{u:L8}(ry:RelV y u):
  KV (kvs.map λkv=>if kv.1=k then(kv.1,y)else kv) (vs.map λkv=>if kv.1=k then(kv.1,u)else kv):=by
 unfold KV at r ⊢
 induction r with
 |nil=>exact .nil
 |@cons p q ps qs h t ih=>
  rw[Jg,Jg];refine .cons ?_ ih;obtain⟨h1,h2⟩:=h;by_cases e:p.1=k
  ·rw[if_pos e,if_pos (h1.symm.trans e)];exact⟨h1,ry⟩
  ·rw[if_neg e,if_neg (λz=>e (h1.trans z))];exact⟨h1,h2⟩
theorem KV.put{kvs:List (κ×V)}{vs:List (κ×L8)}(r:KV kvs vs)(k:κ){y:V}{u:L8}(ry:RelV y u):KV (putK kvs k y) (stored vs k u):=by
 unfold putK stored;rw[r.any k];by_cases e:(vs.any λkv=>decide (kv.1=k))=true
 ·rw[if_pos e,if_pos e];exact r.repl k ry
 ·rw[if_neg e,if_neg e];exact Paired.snoc r ⟨rfl,ry⟩
theorem KV.length{kvs:List (κ×V)}{vs:List (κ×L8)}(r:KV kvs vs):kvs.length=vs.length:=Paired.length r
end
theorem lV{P:Mh}{w:Mg}{k:Key}{u:L8}(r:RelV (kV k) u):(aQ P w).is k u=true:=by
 cases k with
 |inl i=>obtain⟨t,e⟩:=(show∃t,u=Value.int i t from r);subst e;exact p9 P w i t
 |inr x=>obtain⟨t,e⟩:=(show∃t,u=Value.str x t from r);subst e;exact qc P w x t
theorem oj{P:Mh}{w:Mg}:∀{ks:aE}{us:aF},Vals (ks.map kV) us->ItemsAre (aQ P w) ks us
 |[],_,r=>by rw[Jf]at r;cases r;exact .nil
 |k::ks,_,r=>by
  rw[Jg]at r;cases r with
  |cons h t=>exact .cons (lV h) (oj t)
noncomputable abbrev KT(H:Hp):List (List Key×V)->List (List Key×Ma×L8)->Prop:=Mi λp q=>p.1=q.1/\H q.2.1=some (.tup (p.1.map kV))/\RelV p.2 q.2.2
theorem KT.val{H:Hp}{kvs:List (List Key×V)}{xs:List (List Key×Ma×L8)}(r:KT H kvs xs)(k:aE):kZ (dJ kvs k) ((atKey xs k).map (·.2)):=by
 induction r with
 |nil=>exact True.intro
 |@cons p q ps qs h t ih=>
  obtain⟨h1,_,h2⟩:=h;by_cases e:p.1=k
  ·have e':q.1=k:=h1.symm.trans e;have b:atKey (q::qs) k=some q.2:=(by simp[atKey,Jj,e']);rw[gu e,b];exact h2
  ·have e':¬q.1=k:=λz=>e (h1.trans z);have b:atKey (q::qs) k=atKey qs k:=(by simp[atKey,Jj,e']);rw[gF e,b];exact ih
theorem KT.repl{H:Hp}{kvs:List (List Key×V)}{xs:List (List Key×Ma×L8)}(r:KT H kvs xs)(k:aE){y:V}{u:L8}(ry:RelV y u):
  KT H (kvs.map λkv=>if kv.1=k then(kv.1,y)else kv) (xs.map (putAt k u)):=by
 induction r with
 |nil=>exact .nil
 |@cons p q ps qs h t ih=>
  rw[Jg,Jg];refine .cons ?_ ih;obtain⟨h1,h2,h3⟩:=h;unfold putAt;by_cases e:p.1=k
  ·rw[if_pos e,if_pos (h1.symm.trans e)];exact⟨h1,h2,ry⟩
  ·rw[if_neg e,if_neg (λz=>e (h1.trans z))];exact⟨h1,h2,h3⟩
theorem KT.put{H:Hp}{kvs:List (List Key×V)}{xs:List (List Key×Ma×L8)}(r:KT H kvs xs)(k:aE){b:Ma}{y:V}{u:L8}(hb:H b=some (.tup (k.map kV)))(ry:RelV y u):
  KT H (putK kvs k y) (storedH xs k b u):=by
 have e:(kvs.any λkv=>decide (kv.1=k))=(atKey xs k).isSome:=by
  rw[qE,(r.val k).isSome_eq,Jo]
 unfold putK storedH;rw[e];by_cases q:(atKey xs k).isSome=true
 ·rw[if_pos q,if_pos q];exact r.repl k ry
 ·rw[if_neg q,if_neg q];exact Paired.snoc r ⟨rfl,hb,ry⟩
theorem KT.keeps{H H':Hp}{kvs:List (List Key×V)}{xs:List (List Key×Ma×L8)}(r:KT H kvs xs)(ht:∀b ys,H b=some (.tup ys)->H' b=some (.tup ys)):KT H' kvs xs:=
 Paired.mapP r λ_ _ z=>⟨z.1,ht _ _ z.2.1,z.2.2⟩
section
variable{P:Mh}{w:Mg}{H:Hp}{h:Mj}{a:Ma}
theorem Bz{u:HO}(ok:kN P w H h)(e:Rd H a u):a7 P w H h a u:=e.ok ok
theorem kQ{kvs:List (Key×V)}(ok:kN P w H h)(e:Rd H a (.dK kvs)):kvs.length<=Mk/\(a==sysModules)=false/\∃vs,KV kvs vs/\h.DictOf (aQ P w) a vs:=
 show a7 P w H h a (.dK kvs)from Bz ok e
theorem EZ{kvs:List (Key×V)}(ok:kN P w H h)(e:H a=some (.dK kvs)):kvs.length<=Mk/\(a==sysModules)=false/\∃vs,KV kvs vs/\h.DictOf (aQ P w) a vs:=kQ ok (.inl e)
theorem eI{ks:aE}(ok:kN P w H h)(e:H a=some (.tup (ks.map kV))):(tupleKind (aQ P w)).is h ks a:=by
 obtain⟨_,its,r,o,h1,h2,n,h3⟩:=(show a7 P w H h a (.tup (ks.map kV))from ok a _ e)
 exact⟨o,its.toArray,n,h1,h2,h3,by simpa using oj r⟩
theorem jf{kvs:List (List Key×V)}(ok:kN P w H h)(e:Rd H a (.dT kvs)):kvs.length<=Mk/\(a==sysModules)=false/\
  ∃xs,KT H kvs xs/\h.DictOfH (tupleKind (aQ P w)) a xs:=by
 obtain⟨z,y,xs,r,o,es,ep,h1,h2,h3,h4,h5⟩:=(show a7 P w H h a (.dT kvs)from Bz ok e)
 refine⟨z,y,xs,r,o,es,ep,h1,h2,h3,h4,λx hx=>?_,h5⟩;have all:∀{l:List (List Key×V)}{m:List (List Key×Ma×L8)},KT H l m->∀x∈m,(tupleKind (aQ P w)).is h x.1 x.2.1:=by
  intro l m q
  induction q with
  |nil=>intro x hx;exact nomatch hx
  |@cons p q ps qs hq t ih=>
   intro x hx;rcases List.mem_cons.mp hx with e|hx
   ·subst e;exact eI ok (by rw[<-hq.1];exact hq.2.1)
   ·exact ih x hx
 exact all r x hx
theorem BX{kvs:List (List Key×V)}(ok:kN P w H h)(e:H a=some (.dT kvs)):kvs.length<=Mk/\(a==sysModules)=false/\
  ∃xs,KT H kvs xs/\h.DictOfH (tupleKind (aQ P w)) a xs:=jf ok (.inl e)
end
noncomputable def ph(H:Hp)(a:Ma)(y:V)(r:Option V):Prop:=
 (∃kvs k,Rd H a (.dK kvs)/\y=kV k/\r=dJ kvs k)\/∃kvs k b,Rd H a (.dT kvs)/\y=.ref b/\H b=some (.tup (k.map kV))/\r=dJ kvs k
noncomputable def Fq(H:Hp)(a:Ma)(y v:V)(H':Hp):Prop:=
 (∃kvs k,H a=some (.dK kvs)/\y=kV k/\kvs.length<Mk/\H'=upd H a (.dK (putK kvs k v))) \/
 ∃kvs k b,H a=some (.dT kvs)/\y=.ref b/\H b=some (.tup (k.map kV))/\kvs.length<Mk/\H'=upd H a (.dT (putK kvs k v))
theorem ph.t{H:Hp}{a b:Ma}{kvs:List (List Key×V)}{k:aE}(e:H a=some (.dT kvs))(eb:H b=some (.tup (k.map kV))):ph H a (.ref b) (dJ kvs k):=.inr ⟨kvs,k,b,.inl e,rfl,eb,rfl⟩
theorem Fq.t{H:Hp}{a b:Ma}{kvs:List (List Key×V)}{k:aE}{v:V}(e:H a=some (.dT kvs))(eb:H b=some (.tup (k.map kV)))(hl:kvs.length<Mk):
  Fq H a (.ref b) v (upd H a (.dT (putK kvs k v))):=.inr ⟨kvs,k,b,e,rfl,eb,hl,rfl⟩
section
variable{X:Cx}{pins:aG}{σ:St}{H:Hp}{s:Mf}{a:Ma}{y v:V}{u r:L8}{o:Option V}{A:Mo}{E:aD}
theorem Inv.big(I:`h):sysModules<s.heap.objs.size:=by
 have h:Ml<s.heap.objs.size:=(I.mod.glob.keeps I.bk).lt;exact Jp (by decide) h
theorem uI{Q:aD}(hu:A.units+1<MF)(I:`h)(g:ph H a y (some v))(ry:RelV y u)(h:∀w' s',Inv X pins σ H s'->RelV v w'->Q w' s'):
  Mr `i A (getItem (.ref a) u) Q E s:=by
 rcases g with⟨kvs,k,e,ey,l⟩|⟨kvs,k,b,e,ey,eb,l⟩
 ·subst ey;obtain⟨z,hd,vs,rel,dd⟩:=kQ I.hok e;obtain⟨w',hw,rw'⟩:=kZ.some_of (v:=v) (o:=valueAt vs k) (by rw[l];exact rel.val k);exact wpAny_getItem_of (lV ry) dd.mapOf hw (h w' _ (I.tok _) rw')
 ·subst ey;cases(show u=Value.ref b from ry);obtain⟨z,hd,xs,rel,dd⟩:=jf I.hok e;obtain⟨w',hw,rw'⟩:=kZ.some_of (v:=v) (o:=(atKey xs k).map (·.2)) (by rw[l];exact rel.val k);obtain⟨p,hp,hp2⟩:=Option.map_eq_some_iff.mp hw;refine wpAny_getItem_heap (M0 hu) (eI I.hok eb) dd hp ?_;rw[hp2];exact h w' _ (I.tok _) rw'
theorem FU{Q:aD}(hu:A.units+1<MF)(I:`h)(g:ph H a y o)(ry:RelV y u)(h:∀s',Inv X pins σ H s'->Q (.bool o.isSome) s'):
  Mr `i A (MB .In u (.ref a)) Q E s:=by
 rcases g with⟨kvs,k,e,ey,l⟩|⟨kvs,k,b,e,ey,eb,l⟩
 ·subst ey;obtain⟨z,hd,vs,rel,dd⟩:=kQ I.hok e;refine wpAny_in_of (lV ry) hd dd.mapOf ?_;rw[<-(rel.val k).isSome_eq,<-l];exact h _ (I.tok _)
 ·subst ey;cases(show u=Value.ref b from ry);obtain⟨z,hd,xs,rel,dd⟩:=jf I.hok e;refine wpAny_in_heap (M0 hu) (eI I.hok eb) hd dd ?_;have q:=(rel.val k).isSome_eq;rw[Jo]at q;rw[<-q,<-l];exact h _ (I.tok _)
theorem tM{Q:aD}(hu:A.units+1<MF)(I:`h)(g:ph H a y o)(ry:RelV y u)(h:∀s',Inv X pins σ H s'->Q (.bool (!o.isSome)) s'):
  Mr `i A (MB .NotIn u (.ref a)) Q E s:=by
 rcases g with⟨kvs,k,e,ey,l⟩|⟨kvs,k,b,e,ey,eb,l⟩
 ·subst ey;obtain⟨z,hd,vs,rel,dd⟩:=kQ I.hok e;refine wpAny_notIn_of (lV ry) hd dd.mapOf ?_;rw[<-(rel.val k).isSome_eq,<-l];exact h _ (I.tok _)
 ·subst ey;cases(show u=Value.ref b from ry);obtain⟨z,hd,xs,rel,dd⟩:=jf I.hok e;refine wpAny_notIn_heap (M0 hu) (eI I.hok eb) hd dd ?_;have q:=(rel.val k).isSome_eq;rw[Jo]at q;rw[<-q,<-l];exact h _ (I.tok _)
theorem iJ{h':Mj}{t':Nat}{ob:HO}(I:`h)(mu:FQ (H a))(hs:Lx a s.heap h')(he:∃q,h'.get? a=some q)(new:a7 X.prog X.w (upd H a ob) h' a ob):
  Inv X pins σ (upd H a ob) {s with heap:=h',toks:=t'}:=
 I.write (x:=a) (e:=a) mu (.inl rfl) (λb q hb z=>(hs.2 b hb).trans z) he new
theorem De{P:Mh}{w:Mg}{H':Hp}{h':Mj}{kvs:List (Key×V)}{vs:List (Key×L8)}(z:kvs.length<=Mk)(hd:(a==sysModules)=false)(rel:KV kvs vs)(dd:h'.DictOf (aQ P w) a vs):
  a7 P w H' h' a (.dK kvs):=⟨z,hd,vs,rel,dd⟩
theorem n6{H':Hp}{Q:Unit->cF}(hu:A.units+1<MF)(I:`h)(g:Fq H a y v H')(ry:RelV y u)(rv:RelV v r)(h:∀s',Inv X pins σ H' s'->Q () s'):
  Mr `i A (setItem (.ref a) u r) Q E s:=by
 rcases g with⟨kvs,k,e,ey,l,eH⟩|⟨kvs,k,b,e,ey,eb,l,eH⟩
 ·subst ey eH;obtain⟨z,hd,vs,rel,dd⟩:=EZ I.hok e;have hz:vs.length<=Mk:=by rw[<-rel.length];exact z
  have hl:(putK kvs k v).length<=Mk:=by have:=gV kvs k v;omega
  refine wpAny_setItem_pairs (hsz:=hz) (lV ry) dd λh' dd' hs=>h _ ?_;have he:∃q,h'.get? a=some q:=let ⟨q,_,_,hq,_⟩:=dd';⟨q,hq⟩
  exact iJ I (by rw[e];exact True.intro) hs he (De hl hd (rel.put k rv) dd')
 ·subst ey eH;cases(show u=Value.ref b from ry);obtain⟨z,hd,xs,rel,dd⟩:=BX I.hok e;have hz:xs.length<=Mk:=by rw[<-Paired.length rel];exact z
  have hl:(putK kvs k v).length<=Mk:=by have:=gV kvs k v;omega
  refine wpAny_setItem_heap (hsz:=hz) (M0 hu) (eI I.hok eb) dd λh' dd' hs=>h _ ?_;obtain⟨q,es,ep,hq,h2,h3,h4,_,h5⟩:=dd';refine iJ I (by rw[e];exact True.intro) hs ⟨q,hq⟩ ⟨hl,hd,_,(rel.put k eb rv).keeps λc ys ec=>?_,q,es,ep,hq,h2,h3,h4,h5⟩;rw[ai (y8 ec e (λz=>nomatch z))];exact ec
end
noncomputable def DH(i:Mb):Prop:=∀ov iv,subscripted i false ov iv=operate [ov,iv] (getItem ov iv)
theorem Aa{prog:Mh}{w:Mg}{A:Mo}{E:aD}{s:Mf}{env:Env}{value slice:Mb}{pos:Pos}{T id:String}{Q:aD}
  (hl:typeLookup (.type T) "__getitem__"=pure (some (.builtin id))) (hs:DH slice)
  (h:Mr `g A (eval value env) (λo s₁=>Mr `g A (eval slice env) (λi s₂=>s₂.TypeIs o T/\Mr `g A (getItem o i) Q E s₂) E s₁) E s):
  Mr `g A (eval (.Subscript value slice pos) env) Q E s:=by
 refine Subscript_ (Mt h (λo s₁ h₁=>Mt h₁ (λi s₂ h₂=>?_) λ_ _ x=>x) λ_ _ x=>x);obtain⟨hT,h₂⟩:=h₂;unfold subscriptTail;refine My ?_;rw[getitemInPython_of_ne hT.not_modules];refine My (wpAny_specialOf hT hl ?_);have fin:Mr `g A (subscripted slice false o i) (λr s₃=>Mr `g A (letTemporaryGo value o r >>= λ_=>pure r) Q E s₃) E s₂:=by
  rw[hs o i];exact wpAny_operating (Mt h₂ (λr s₃ h₃=>My (wpAny_letTemporaryGo (Mx h₃))) λ_ _ x=>x)
 first
  |exact Mx (My fin)
  |exact My (Mx (My fin))
  |exact My fin
theorem qF{X:Cx}{pins:aG}{σ:St}{H:Hp}{s:Mf}{a:Ma}{y:V}{o:Option V}(I:`h)(g:ph H a y o):s.TypeIs (.ref a) "dict":=by
 rcases g with⟨kvs,k,e,_,_⟩|⟨kvs,k,b,e,_,_,_⟩
 ·obtain⟨_,_,vs,_,dd⟩:=kQ I.hok e;exact dd.typeIs
 ·obtain⟨_,_,xs,_,dd⟩:=jf I.hok e;exact dd.typeIs
noncomputable def FR(td ty:TE):TE:=λσ H Q=>td σ H λx H1=>ty σ H1 λy H2=>∃a v,x=.ref a/\ph H2 a y (some v)/\Q v H2
section
variable{X:Cx}{o i e value:Mb}{pos pos' tpos:Pos}{td ty tv:TE}
theorem zU(hu:X.A.units+1<MF)(ho:PE X o td)(hi:PE X i ty)(hs:DH i):PE X (.Subscript o i pos) (FR td ty):=by
 intro pins s σ H Q I h;refine Aa PySem.F.slot_dict_getitem.lookup hs (cg (ho pins s σ H _ I h) λu s1 zq=>zq.elim λx zq=>zq.elim λH1 zq=>zq.elim λI1 zq=>zq.elim λrx q1=>cg (hi pins s1 σ H1 _ I1 q1) λiv s2 zq=>zq.elim λy zq=>zq.elim λH2 zq=>zq.elim λI2 zq=>zq.elim λry zq=>zq.elim λa zq=>zq.elim λv zq=>zq.elim λex zq=>zq.elim λg q2=>?_);subst ex;obtain rfl:u=Value.ref a:=rx;exact⟨qF I2 g,uI hu I2 g ry λw' s3 I3 rw'=>⟨v,H2,I3,rw',q2⟩⟩
end
theorem yf{P:Mh}{w:Mg}{H:Hp}(h:Mj)(hb:sysModules<h.objs.size):a7 P w H (h.push {cls:=.type "dict",data:=.dict #[]}) h.objs.size (.dT []):=
 ⟨Jq _,beq_eq_false_iff_ne.mpr (Ne.symm (Iw hb)),[],.nil,_,#[],0,Lz _ rfl,⟨rfl,rfl,rfl⟩,rfl,rfl,Jr⟩
noncomputable def wx:TE:=λ_ H Q=>∀p,H p=none->Q (.ref p) (upd H p (.dT []))
section
variable{X:Cx}{pos:Pos}
theorem qi:PE X (.Dict [] [] pos) wx:=λpins s σ H Q I h=>
 wpAny_Dict_empty ⟨.ref s.heap.objs.size,_,I.laid (a:=s.heap.objs.size) (o:=.dT []) (t':=s.toks) (λ_ _ q=>Ly _ q) (IJ _) (yf s.heap I.big),rfl,h _ (I.hok.fresh (IJ _))⟩
end
structure M1(X:Cx)(o:Mb)(m:Str)(apos:Pos)(e:Mb)(cpos:Pos):Prop where
 base:ME o m X.env (eval o X.env)=eval o X.env
 few:((backTo cpos (Ms [e] X.env)).all (λx=>!x.1)&&(backToKw cpos (MV [] X.env)).all (λx=>x.1.isSome)
  && decide (([e]:aX).length+([]:List MX).length+(if([]:List MX).isEmpty then 0 else 1)<30))=true
 line:(apos.endLine==cpos.line)=true
 trees:backTo cpos (Ms [e] X.env)=[(false,eval e X.env)]
structure M2(X:Cx)(o:Mb)(m:Str)(apos:Pos)(e f:Mb)(cpos:Pos):Prop where
 base:ME o m X.env (eval o X.env)=eval o X.env
 few:((backTo cpos (Ms [e,f] X.env)).all (λx=>!x.1)&&(backToKw cpos (MV [] X.env)).all (λx=>x.1.isSome)
  && decide (([e,f]:aX).length+([]:List MX).length+(if([]:List MX).isEmpty then 0 else 1)<30))=true
 line:(apos.endLine==cpos.line)=true
 trees:backTo cpos (Ms [e,f] X.env)=[(false,eval e X.env),(false,eval f X.env)]
noncomputable def Hr(H:Hp)(a:Ma):Prop:=(∃kvs,Rd H a (.dK kvs))\/∃kvs,Rd H a (.dT kvs)
theorem wZ{X:Cx}{pins:aG}{σ:St}{H:Hp}{s:Mf}{a:Ma}(I:`h)(d:Hr H a):
  s.TypeIs (.ref a) "dict"/\(∀b,Value.ref a=.ref b->∃ob,s.heap.get? b=some ob/\ob.dict=none)/\(a==sysModules)=false:=by
 rcases d with⟨kvs,e⟩|⟨kvs,e⟩
 ·obtain⟨_,hd,vs,_,dd⟩:=kQ I.hok e;refine⟨dd.typeIs,λb q=>?_,hd⟩;cases q;obtain⟨ob,_,_,h1,h2,_⟩:=dd;exact⟨ob,h1,h2.2.1⟩
 ·obtain⟨_,hd,xs,_,dd⟩:=jf I.hok e;refine⟨dd.typeIs,λb q=>?_,hd⟩;cases q;obtain⟨ob,_,_,h1,h2,_⟩:=dd;exact⟨ob,h1,h2.2.1⟩
section
variable{X:Cx}{pins:aG}{σ:St}{H:Hp}{s:Mf}{a:Ma}{y d:V}{u r:L8}{o:Option V}{A:Mo}{E:aD}
theorem yk{Q:aD}(hu:A.units+1<MF)(I:`h)(g:ph H a y o)(ry:RelV y u)(h:∀w' s',Inv X pins σ H s'->RelV (o.getD .non) w'->Q w' s'):
  Mr `i A (call (.builtin "dict.get") [.ref a,u]) Q E s:=by
 rcases g with⟨kvs,k,e,ey,l⟩|⟨kvs,k,b,e,ey,eb,l⟩
 ·subst ey;obtain⟨z,hd,vs,rel,dd⟩:=kQ I.hok e;refine M3 LY dd.typeIs LZ (L0 _ _) (meets_dict_get (aQ X.prog X.w) a (lV ry) hd) ⟨_,dd.mapOf,h _ _ (I.tok _) ?_⟩;rw[l];exact(rel.val k).getD rfl
 ·subst ey;cases(show u=Value.ref b from ry);obtain⟨z,hd,xs,rel,dd⟩:=jf I.hok e;refine M3 LY dd.typeIs LZ (L0 _ _) (meetsH_dict_get (tupleKind (aQ X.prog X.w)) a b hd) ⟨M0 hu,k,xs,eI I.hok eb,dd,h _ _ (I.tok _) ?_⟩;rw[l];exact(rel.val k).getD rfl
theorem ym{Q:aD}(hu:A.units+1<MF)(I:`h)(g:ph H a y o)(ry:RelV y u)(rd:RelV d r)(h:∀w' s',Inv X pins σ H s'->RelV (o.getD d) w'->Q w' s'):
  Mr `i A (call (.builtin "dict.get") [.ref a,u,r]) Q E s:=by
 rcases g with⟨kvs,k,e,ey,l⟩|⟨kvs,k,b,e,ey,eb,l⟩
 ·subst ey;obtain⟨z,hd,vs,rel,dd⟩:=kQ I.hok e;refine M3 LY dd.typeIs LZ (L4 _ _ _) (meets_dict_get_default (aQ X.prog X.w) a (lV ry) hd r) ⟨_,dd.mapOf,h _ _ (I.tok _) ?_⟩;rw[l];exact(rel.val k).getD rd
 ·subst ey;cases(show u=Value.ref b from ry);obtain⟨z,hd,xs,rel,dd⟩:=jf I.hok e;refine M3 LY dd.typeIs LZ (L4 _ _ _) (meetsH_dict_get_default (tupleKind (aQ X.prog X.w)) a b hd r) ⟨M0 hu,k,xs,eI I.hok eb,dd,h _ _ (I.tok _) ?_⟩;rw[l];exact(rel.val k).getD rd
end
noncomputable def bR(cells:ky):lF->ky->ky
 |[],acc=>acc
 |(n,k)::r,acc=>if k=.free then(match cells.lookup n with|some c=>bR cells r ((n,c)::acc)|none=>bR cells r acc)else bR cells r acc
theorem iL{cells:ky}:∀(names:lF)(acc:ky),(∀x c,acc.lookup x=some c->cells.lookup x=some c)->
  ∀x c,(bR cells names acc).lookup x=some c->cells.lookup x=some c
 |[],acc,h=>h
 |(n,k)::r,acc,h=>by
  unfold bR;by_cases hk:k=.free
  ·rw[if_pos hk];cases e:cells.lookup n with
   |none=>exact iL r acc h
   |some c0=>
    refine iL r _ λx c q=>?_;rw[Js]at q;cases hx:x==n with
    |true=>
     rw[hx]at q;have e1:x=n:=(by simpa using hx);cases q;rw[e1];exact e
    |false=>rw[hx]at q;exact h x c q
  ·rw[if_neg hk];exact iL r acc h
theorem f6{cells:ky}:∀(names:lF)(acc:ky)(x:Str),(acc.lookup x).isSome=true->((bR cells names acc).lookup x).isSome=true
 |[],acc,x,h=>h
 |(n,k)::r,acc,x,h=>by
  unfold bR;by_cases hk:k=.free
  ·rw[if_pos hk];cases e:cells.lookup n with
   |none=>exact f6 r acc x h
   |some c0=>
    refine f6 r _ x ?_;rw[Js];cases hx:x==n with
    |true=>rfl
    |false=>exact h
  ·rw[if_neg hk];exact f6 r acc x h
theorem fF{cells:ky}:∀(names:lF)(acc:ky)(x:Str),(x,NameKind.free)∈names->(∃c,cells.lookup x=some c)->((bR cells names acc).lookup x).isSome=true
 |[],acc,x,h,_=>absurd h (by simp)
 |(n,k)::r,acc,x,h,hc=>by
  unfold bR;rcases List.mem_cons.mp h with e|h
  ·cases e;rw[if_pos rfl];obtain⟨c,e⟩:=hc;rw[e];refine f6 r _ _ ?_;rw[Js];simp
  ·by_cases hk:k=.free
   ·rw[if_pos hk];cases e:cells.lookup n with
    |none=>exact fF r acc x h hc
    |some c0=>exact fF r _ x h hc
   ·rw[if_neg hk];exact fF r acc x h hc
theorem jt{scope:Mp}{env:Env}(h:∀p∈scope.names,p.2=.free->∃c,env.cells.lookup p.1=some c):closureFor scope env=pure (bR env.cells scope.names []):=by
 have go:∀(names:lF)(acc:ky),(∀p∈names,p.2=.free->∃c,env.cells.lookup p.1=some c)->
   (forIn names acc λx cs=>(match x with|(name,kind)=>if(kind==NameKind.free)=true then do let a<-cellOf env name;pure (ForInStep.yield ((name,a)::cs))else pure (ForInStep.yield cs):Sem (ForInStep ky)))=pure (bR env.cells names acc):=by
  intro names
  induction names with
  |nil=>intro acc _;rfl
  |cons p r ih=>
   intro acc hp;obtain⟨n,k⟩:=p;rw[List.forIn_cons];by_cases hk:k=.free
   ·obtain⟨c,e⟩:=hp (n,k) IB hk;subst hk;have e2:cellOf env n=pure c:=(by unfold cellOf;rw[e]);simp only[beq_self_eq_true,if_true,e2,pure_bind];rw[ih _ λq hq=>hp q (IC _ hq)]
    conv=>rhs;rw[bR]
    simp[e]
   ·have hb:(k==NameKind.free)=false:=(by simpa using hk);simp only[hb,Jt,if_false,pure_bind];rw[ih _ λq hq=>hp q (IC _ hq)]
    conv=>rhs;rw[bR,if_neg hk]
 have:=go scope.names [] h
 unfold closureFor;simp only[];rw[this];rfl
noncomputable def bf(X:Cx)(scope:Mp)(N:ay)(cl:ky)(C:Ma)(fp:au)(s:Mf)(H:Hp)(E:aD):Cx where
 prog:=X.prog
 w:=X.w
 K:=X.K
 mg:=X.mg
 base:=X.base
 A:=X.A
 N:=N
 s₀:=s
 H₀:=H
 env:=compEnvC scope cl C X.env
 outer:=X.stack
 stack:=X.stack
 ex:=fp
 fn:=λ_=>false
 calm:=X.calm
 pn:=[]
 xe:=E
noncomputable def o8(XN N:ay)(names:lF)(ix:dA):Bool:=
 decide (ix.length=N.length)&&(N.zip ix).all λp=>match p.2 with
  |some i=>decide (XN[i]?=some p.1)&&decide (names.lookup p.1=some .free)
  |none=>true
noncomputable def inBlock(ix:dA)(σ:St):St:=ix.map λo=>match o with
 |some i=>(σ[i]?).getD none
 |none=>none
theorem o8.len{XN N:ay}{names:lF}{ix:dA}(h:o8 XN N names ix=true):ix.length=N.length:=by
 unfold o8 at h;rw[Jc]at h;exact of_decide_eq_true h.1
theorem o8.at_{XN N:ay}{names:lF}{ix:dA}(h:o8 XN N names ix=true){j i:Nat}{x:Str}(h1:N[j]?=some x)(h2:ix[j]?=some (some i)):XN[i]?=some x/\names.lookup x=some .free:=by
 unfold o8 at h;rw[Jc]at h;have hm:(x,some i)∈N.zip ix:=by
  have e:(N.zip ix)[j]?=some (x,some i):=by rw[List.getElem?_zip_eq_some];exact⟨h1,h2⟩
  exact IX e
 have q:=List.all_eq_true.mp h.2 _ hm;simp only[Jc]at q;exact⟨of_decide_eq_true q.1,of_decide_eq_true q.2⟩
theorem gM{env:Env}:∀{names:lF}{x:Str}{k:L9},
  (names.map λ(n,k)=>if(k==NameKind.free&&env.scope.kind==.function&&env.kindOf n==some .cell)then(n,NameKind.cell)else(n,k)).lookup x=some k->
  names.lookup x=some k\/(names.lookup x=some .free/\k=.cell)
 |[],_,_,h=>by simp at h
 |(n,k0)::r,x,k,h=>by
  have ih:=@gM env r x k
  replace h:List.lookup x ((if(k0==NameKind.free&&env.scope.kind==.function&&env.kindOf n==some .cell)=true then(n,NameKind.cell)else(n,k0))::(r.map λ(n,k)=>if(k==NameKind.free&&env.scope.kind==.function&&env.kindOf n==some .cell)then(n,NameKind.cell)else(n,k)))=some k:=h
  by_cases hc:(k0==NameKind.free&&env.scope.kind==.function&&env.kindOf n==some .cell)=true
  ·rw[if_pos hc]at h;have hk0:k0=.free:=by
    simp only[Jc]at hc
    simpa using hc.1.1
   cases hx:x==n with
   |true=>
    simp only[Js,hx]at h;simp only[Js,hx];cases h;exact .inr ⟨by rw[hk0],rfl⟩
   |false=>
    simp only[Js,hx]at h ⊢;exact ih h
  ·rw[if_neg hc]at h;cases hx:x==n with
   |true=>
    simp only[Js,hx]at h ⊢;exact .inl h
   |false=>
    simp only[Js,hx]at h ⊢;exact ih h
noncomputable def DF(X:Cx)(ifs:aX)(t:TT):Prop:=
 ∀(pins:aG)(s:Mf)(σ:St)(H:Hp)(Q:Bool->Hp->Prop),Inv X pins σ H s->t σ H Q->
  Mr `i X.A (forIn ifs true λc r=>if r=true then do let ok<-isTrue c X.env (eval c X.env);pure (ForInStep.yield ok)else pure (ForInStep.yield r)) (TP X pins σ Q) X.xe s
noncomputable def EG:TT:=λ_ H Q=>Q true H
theorem AG{X:Cx}:DF X [] EG:=λ_ _ _ H _ I h=>wpAny_tests_nil ⟨H,I,h⟩
theorem Bf{X:Cx}{c:Mb}{t:TT}(h:PT X c t):DF X [c] t:=λpins s σ H Q I q=>wpAny_tests_one (h pins s σ H Q I q)
theorem gq{prog:Mh}{w:Mg}{A:Mo}{R:MG->cF}{s:Mf}{elt target iter:Mb}{ifs:aX}{scope:Mp}{pos:Pos}{it acc:L8}{env:Env}(I:Nat->cF)
  (turn:∀ n s,I n s->Mr `g A (pyNext it) (fun r s₁=>match r with
   |none=>R (.ok .next) s₁
   |some v=>Mr `g A (letOwnedTupleGo target it v) (λ_ s₁'=>Mr `g A (assign target env v) (λ_ s₂=>
     Mr `g A (forIn ifs true λc r=>if r=true then do let ok<-isTrue c env (eval c env);pure (ForInStep.yield ok)else pure (ForInStep.yield r)) (λok s₃=>
      if ok=true then Mr `g A (eval elt env) (λx s₄=>
       Mr `g A (call (.builtin "list.append") [acc,x]) (λ_ s₅=>∃m,m<n/\I m s₅) (notedBy `g A env λe s'=>R (.error e) s') s₄) (notedBy `g A env λe s'=>R (.error e) s') s₃
      else∃m,m<n/\I m s₃) (notedBy `g A env λe s'=>R (.error e) s') s₂) (notedBy `g A env λe s'=>R (.error e) s') s₁') (notedBy `g A env λe s'=>R (.error e) s') s₁) (notedBy `g A env λe s'=>R (.error e) s') s)
  (n:Nat) (h:I n s):
  MJ `g A (.compLoop (.ListComp elt [⟨target,iter,ifs,0⟩] scope pos) 0 it acc env) R s:=by
 refine codeAny_loop rfl I (λn s hI=>?_) n h;show Mr _ A ((compTurn (.ListComp elt [⟨target,iter,ifs,0⟩] scope pos) 0 it acc env).onRaise (λx=>do noteFrame x env;theTreesLotGoes x)) _ _ s;refine wpAny_noted ?_;rw[compTurn_list];refine My (M4 (My (Mt (turn n s hI) (λr s₁ h₁=>?_) λ_ _ h'=>h')));cases r with
 |none=>exact Mx h₁
 |some v=>
  refine My (Mt h₁ (λ_ s₁' h₁'=>?_) λ_ _ h'=>h');refine My (Mt h₁' (λ_ s₂ h₂=>My (Mt h₂ (λok s₃ h₃=>?_) λ_ _ h'=>h')) λ_ _ h'=>h');cases ok with
  |false=>exact Mx ⟨rfl,h₃⟩
  |true=>
   exact My (My (Mt h₃ (λx s₄ h₄=>My (Mt h₄ (λ_ s₅ h₅=>Mx (Mx ⟨rfl,h₅⟩)) λ_ _ h'=>h')) λ_ _ h'=>h'))
noncomputable def Gb(wi:TI)(g:TG)(tc:TT)(te:TE)(ix:dA):TE:=λσ H Q=>
 wi σ H λJ H1=>∀D,H1 D=none->∃W:Nat->Nat->St->Hp->Prop,(∃m,W 0 m (inBlock ix σ) (upd H1 D (.lst [])))/\
  ∀i m σ' H',W i m σ' H'->(J.stop i H'/\Q (.ref D) H') \/
   (J.go i H'/\∀ x H2,J.yld i H' x H2->g x σ' H2 fun σ3 H3=>tc σ3 H3 fun b H4 =>
    if b=true then te σ3 H4 λv H5=>∃acc,H5 D=some (.lst acc)/\acc.length<Mk/\∃m',m'<m/\W (i+1) m' σ3 (upd H5 D (.lst (acc++[v])))
    else∃m',m'<m/\W (i+1) m' σ3 H4)
section
variable{X:Cx}{elt tg iter:Mb}{ifs:aX}{scope:Mp}{pos:Pos}{N:ay}{ix:dA}{wi:TI}{g:TG}{tc:TT}{te:TE}
theorem lM{pins:aG}{σ:St}{s2:Mf}{H2:Hp}{it:Ma}{fp:au}{tn:Nat->Mj->Prop}{J:It}{Q:V->Hp->Prop}{E:aD}{RR:L8->Ma->MG->cF}
    (hc:X.calm=true) (hcell:∀y∈scope.names,y.2≠.cell) (hkind:scope.kind=.function)
    (hfr:∀y∈scope.names,y.2=.free->X.env.scope.names.lookup y.1=some .cell\/X.env.scope.names.lookup y.1=some .free)
    (hix:o8 X.N N scope.names ix=true)
    (hb:∀cl C fp s H E,PG (bf X scope N cl C fp s H E) tg g/\DF (bf X scope N cl C fp s H E) ifs tc/\PE (bf X scope N cl C fp s H E) elt te)
    (I2:Inv X pins σ H2 s2) (T:Turn X.prog X.w X.K tg J fp it tn) (st2:tn 0 s2.heap) (f2:∀b∈fp,oD X pins H2 b)
    (q:∀ D,H2 D=none->∃ W:Nat->Nat->St->Hp->Prop,(∃ m,W 0 m (inBlock ix σ) (upd H2 D (.lst []))) /\
      ∀i m σ' H',W i m σ' H'->(J.stop i H'/\Q (.ref D) H') \/
        (J.go i H'/\∀ x H3,J.yld i H' x H3->g x σ' H3 fun σ3 H3=>tc σ3 H3 fun b H4 =>
          if b=true then te σ3 H4 λv H5=>∃acc,H5 D=some (.lst acc)/\acc.length<Mk/\∃m',m'<m/\W (i+1) m' σ3 (upd H5 D (.lst (acc++[v])))
          else∃m',m'<m/\W (i+1) m' σ3 H4))
    (hRR:∀D C H' s' m,H2 D=none->s2.heap.objs.size<=C->H' C=none->s'.heap.Ns C m->(∀h',Lx C s'.heap h'->Inv X pins σ H' {s' with heap:=h'})->Q (.ref D) H'->RR (.ref D) C (.ok .next) s'):
    Mr `i X.A (newList []) (λacc s₃=>Mr `i X.A (newFunctionEnv scope X.env.globals (bR X.env.cells scope.names []) [] X.env.qual none .none (some X.env)) (λcenv s₄=>
      MJ `i X.A (.compStart (.ListComp elt [⟨tg,iter,ifs,0⟩] scope pos) 0 (.ref it) acc {cenv with scope:=relabel scope X.env}) (RR acc cenv.locals) s₄) E s₃) E s2:=by
  refine MU (wpAny_newFunctionEnv hcell (by intro y hy;simp at hy) (λh₁ hns₁ hsb₁=>?_) hkind);dsimp only at hns₁ hsb₁ ⊢;have I3:Inv X pins σ (upd H2 s2.heap.objs.size (.lst [])) {s2 with heap:=s2.heap.push {cls:=.type "list",dict:=none,data:=.seq ([]:aF).toArray},toks:=s2.toks}:=I2.lnew (its:=[]) (t':=s2.toks) .nil (Jq _);generalize hs3:({s2 with heap:=s2.heap.push {cls:=.type "list",dict:=none,data:=.seq ([]:aF).toArray},toks:=s2.toks}:Mf)=s3 at I3;have eh3:s2.heap.push {cls:=.type "list",dict:=none,data:=.seq ([]:aF).toArray}=s3.heap:=by rw[<-hs3]
  rw[eh3]at hns₁ hsb₁ ⊢;have hC3:s3.heap.objs.size=s2.heap.objs.size+1:=by rw[<-eh3,Heap.size_push]
  have hD:H2 s2.heap.objs.size=none:=I2.fresh;obtain⟨W,⟨m0,w0⟩,turn⟩:=q s2.heap.objs.size hD;generalize hH3:upd H2 s2.heap.objs.size (.lst [])=H3 at I3 w0;have old:∀b o,s3.heap.get? b=some o->h₁.get? b=some o:=λb o e=>hsb₁.extBut b o (Iw (Lv e)) (Ly _ e);have fpH3:∀b∈fp,H3 b=none:=λb hb'=>by
    rw[<-hH3,ai]
    ·exact(f2 b hb').1
    · obtain⟨o,e,_⟩:=T.obj _ _ st2 b hb'
      exact Iw (Lv e)
  have fpLt:∀b∈fp,b<s3.heap.objs.size:=λb hb'=>by
    obtain⟨o,e,_⟩:=T.obj _ _ st2 b hb';rw[hC3];exact Ju (Lv e)
  have hfree:∀p∈scope.names,p.2=.free->∃c,X.env.cells.lookup p.1=some c:=λp hp hk=>I2.ok.has p.1 (hfr p hp hk);have csub:∀x c,(bR X.env.cells scope.names []).lookup x=some c->X.env.cells.lookup x=some c:=iL scope.names [] (λx c e=>by simp at e);have names':∀x k,(relabel scope X.env).names.lookup x=some k->scope.names.lookup x=some k\/(scope.names.lookup x=some .free/\k=.cell):=λx k h=>gM h;have ok:(bf X scope N (bR X.env.cells scope.names []) s3.heap.objs.size fp s3 H3 (notedBy `i X.A (compEnvC scope (bR X.env.cells scope.names []) s3.heap.objs.size X.env) λe s'=>RR (.ref s2.heap.objs.size) s3.heap.objs.size (.error e) s')).Ok:=
    { mod:=I3.ok.mod
      kind:=hkind
      glob:=I3.ok.glob
      blt:=I3.ok.blt
      above:=IJ _
      inj:=λx y c h1 h2=>I3.ok.inj x y c (csub x c h1) (csub y c h2)
      has:=λx hx=>by
        have fr:scope.names.lookup x=some .free:=by
          rcases hx with hx|hx
          · rcases names' x .cell hx with h|⟨h,_⟩
            ·exact absurd rfl (hcell _ (PySem.mem_of_lookup h))
            ·exact h
          · rcases names' x .free hx with h|⟨_,h⟩
            ·exact h
            ·cases h
        have hm:=PySem.mem_of_lookup fr;exact Option.isSome_iff_exists.mp (fF scope.names [] x hm (hfree _ hm rfl))
      cab:=λx c h _=>by cases h
      hd:=I3.ok.hd
      frames:=I3.ok.frames
      stk:=.inl rfl
      exf:=λb hb'=>⟨Iw (fpLt b hb'),λx c e=>(f2 b hb').2.2.2.2.1 x c (csub x c e)⟩
      bs:=λb o e=>I3.bs b o e
      bsz:=Iy I3.ok.bsz I3.sz
      noex:=λb o e hb'=>by
        obtain⟨_,_,_,h4,_⟩:=f2 b hb';rcases h4 with h4|h4
        ·exact I3.ok.noex b o e h4
        ·exact absurd (Ir (Lv (I3.ok.bs b o e).1) h4) (Iu _)
      exfs:=λb hb' hs=>by
        obtain⟨_,h2,h3,_⟩:=f2 b hb';rcases List.mem_cons.mp (I3.stkSub b hs)with e|e
        ·exact h2 e
        ·exact h3 e
      funs:=I3.stack
      frf:=λb hb'=>I3.stkFree b hb'}
  generalize hE:(notedBy `i X.A (compEnvC scope (bR X.env.cells scope.names []) s3.heap.objs.size X.env) λe s'=>RR (.ref s2.heap.objs.size) s3.heap.objs.size (.error e) s')=E' at ok;obtain⟨hg,htc,hel⟩:=hb (bR X.env.cells scope.names []) s3.heap.objs.size fp s3 H3 E';have Istart:∀tk,Inv (bf X scope N (bR X.env.cells scope.names []) s3.heap.objs.size fp s3 H3 E') [] (inBlock ix σ) H3 {s3 with heap:=h₁,toks:=tk}:=λtk=>by
    refine⟨ok,rfl,I3.bare,Un.kept old,⟨_,hns₁,λj x v e1 e2 _=>?_⟩,λx c e=>?_,I3.fresh,λx c e=>I3.freeC x c (csub x c e),λp hp=>absurd (show p∈([]:aG)from hp) (by simp),I3.hok.kept old,?_⟩
    ·
      unfold inBlock at e2;rw[IV]at e2;cases q1:ix[j]? with
      |none=>rw[q1]at e2;simp at e2
      |some o=>
        rw[q1]at e2;cases o with
        |none=>simp at e2
        |some i=>
          obtain⟨n1,n2⟩:=o8.at_ hix e1 q1;have e2':(σ[i]?).getD none=some v:=Option.some.inj e2;have e3:σ[i]?=some (some v):=by
            cases q2:σ[i]? with
            |none=>rw[q2]at e2';simp at e2'
            |some o2=>rw[q2]at e2';simpa using e2'
          obtain⟨m,hn,hl⟩:=I3.loc;have hm:=PySem.mem_of_lookup n2;have hk:=hfr _ hm rfl;have hv:Dk X.env.scope x:=by
            rcases hk with hk|hk
            ·exact .inr (.inl hk)
            ·exact .inr (.inr hk)
          obtain⟨u,r,l⟩:=hl i x v n1 e3 hv;refine⟨u,r,.inr ?_⟩;rcases l with⟨kl,_⟩|⟨_,c,hcx,hcell'⟩
          · have kl':X.env.scope.names.lookup x=some .local:=kl
            rcases hk with hk|hk
            ·rw[kl']at hk;cases hk
            ·rw[kl']at hk;cases hk
          · obtain⟨c',hc'⟩:=Option.isSome_iff_exists.mp (fF (cells:=X.env.cells) scope.names [] x hm ⟨c,hcx⟩)
            have ec:c'=c:=Option.some.inj ((csub x c' hc').symm.trans hcx);subst ec;refine⟨?_,c',hc',?_⟩
            ·
              show(relabel scope X.env).names.lookup x=some .cell\/(relabel scope X.env).names.lookup x=some .free;have gen:∀names:lF,names.lookup x=some .free->((names.map λ(n,k)=>if(k==NameKind.free&&X.env.scope.kind==.function&&X.env.kindOf n==some .cell)then(n,NameKind.cell)else(n,k)).lookup x=some .cell\/(names.map λ(n,k)=>if(k==NameKind.free&&X.env.scope.kind==.function&&X.env.kindOf n==some .cell)then(n,NameKind.cell)else(n,k)).lookup x=some .free):=by
                intro names
                induction names with
                |nil=>intro h;simp at h
                |cons p r ih=>
                  obtain⟨n,k⟩:=p;intro h;show List.lookup x ((if(k==NameKind.free&&X.env.scope.kind==.function&&X.env.kindOf n==some .cell)=true then(n,NameKind.cell)else(n,k))::_)=_\/List.lookup x ((if(k==NameKind.free&&X.env.scope.kind==.function&&X.env.kindOf n==some .cell)=true then(n,NameKind.cell)else(n,k))::_)=_;cases hx:x==n with
                  |true=>
                    simp only[Js,hx]at h;by_cases hcc:(k==NameKind.free&&X.env.scope.kind==.function&&X.env.kindOf n==some .cell)=true
                    ·rw[if_pos hcc];left;simp only[Js,hx]
                    ·rw[if_neg hcc];right;simp only[Js,hx];exact h
                  |false=>
                    simp only[Js,hx]at h;by_cases hcc:(k==NameKind.free&&X.env.scope.kind==.function&&X.env.kindOf n==some .cell)=true
                    ·rw[if_pos hcc];simp only[Js,hx];exact ih h
                    ·rw[if_neg hcc];simp only[Js,hx];exact ih h
              exact gen scope.names n2
            ·exact hcell'.keeps old
    · obtain⟨v,z⟩:=I3.cell x c (csub x c e)
      exact⟨v,z.keeps old⟩
    · show(inBlock ix σ).length=N.length
      unfold inBlock;rw[IZ];exact o8.len hix
  have stat:∀{H':Hp},(∀b∈fp,H' b=none)->∀b∈fp,oD (bf X scope N (bR X.env.cells scope.names []) s3.heap.objs.size fp s3 H3 E') [] H' b:=λhn b hb'=>
    ⟨hn b hb',(ok.exf b hb').1,ok.exfs b hb',.inl hb',(ok.exf b hb').2,λp hp=>absurd (show p∈([]:aG)from hp) (by simp)⟩
  have tn1:tn 0 h₁:=T.keep _ _ _ st2 λb hb' o e=>old b o (by rw[<-eh3];exact Ly _ e);have loop:∀tk,MJ `i X.A (.compLoop (.ListComp elt [⟨tg,iter,ifs,0⟩] scope pos) 0 (.ref it) (.ref s2.heap.objs.size) (compEnvC scope (bR X.env.cells scope.names []) s3.heap.objs.size X.env))
      (RR (.ref s2.heap.objs.size) s3.heap.objs.size) {s3 with heap:=h₁,toks:=tk}:=by
    intro tk;refine gq (λn s'=>∃i σ' H',Inv (bf X scope N (bR X.env.cells scope.names []) s3.heap.objs.size fp s3 H3 E') [] σ' H' s'/\tn i s'.heap/\(∀b∈fp,H' b=none)/\W i n σ' H') ?_ m0 ⟨0,_,_,Istart tk,tn1,fpH3,w0⟩;rintro n s5 ⟨i,σ5,H5,I5,st5,fr5,w5⟩;rw[hE];rcases turn i n σ5 H5 w5 with⟨stop,qn⟩|⟨go,step⟩
    · refine cg (T.done (bf X scope N (bR X.env.cells scope.names []) s3.heap.objs.size fp s3 H3 E') rfl rfl rfl hc i [] s5 σ5 H5 _ I5 (stat fr5) st5 stop) λr s6 zq=>zq.elim λhr I6=>?_
      subst hr;obtain⟨m6,hn6,_⟩:=I6.loc;refine hRR s2.heap.objs.size s3.heap.objs.size H5 s6 m6 hD (by rw[hC3];exact Nat.le_succ _) I6.free hn6 (λh' sb=>?_) qn;have ne:∀b o,s3.heap.get? b=some o->b≠s3.heap.objs.size:=λb o e=>Iw (Lv e);refine I3.call' (s':={s6 with heap:=h'}) (H':=H5) (ch:=fp) I6.os ⟨λb o e n hb' hx=>?_,λb o e n hb' hx=>?_,λb o e n hx=>?_,λb o e hx=>?_,I6.base.tups,I6.base.frzs,I6.base.tbls⟩ ?_ I6.bare λb hb'=>?_
      ·exact(sb.2 b (ne b o e)).trans (I6.base.keep b o e n hb' hx)
      · obtain⟨sl,e1⟩:=I6.base.slot b o e n hb' hx
        exact⟨sl,(sb.2 b (ne b o e)).trans e1⟩
      ·exact I6.base.free b o e n hx
      · obtain⟨o',e1⟩:=I6.base.there b o e hx
        exact⟨o',(sb.2 b (ne b o e)).trans e1⟩
      · intro b ob e
        have hfreeC:H5 s3.heap.objs.size=none:=I6.free;refine(I6.hok b ob e).stay (λc v hcc q=>(sb.2 c ?_).trans q) (λ_ q=>q) λ_ _ q=>q;rintro rfl;rcases hcc with rfl|hcc
        ·rw[hfreeC]at e;cases e
        ·rw[hfreeC]at hcc;cases hcc
      · obtain⟨_,h2',_,h4',h5',h6'⟩:=f2 b hb'
        exact⟨h4',h2',h5',h6'⟩
    · refine cg (T.item (bf X scope N (bR X.env.cells scope.names []) s3.heap.objs.size fp s3 H3 E') rfl rfl rfl hc i [] s5 σ5 H5 _ I5 (stat fr5) st5 go) λr s6 zq=>zq.elim λu zq=>zq.elim λhr h6=>?_
      subst hr;refine cg h6 λ_ s7 zq=>zq.elim λx zq=>zq.elim λH7 zq=>zq.elim λI7 zq=>zq.elim λr7 zq=>zq.elim λy7 zq=>zq.elim λst7 fr7=>?_;have I7':=I7.pinned (stat fr7) (T.obj _ _ st7);refine cg (hg _ s7 σ5 H7 x u _ I7' r7 (step x H7 y7)) λ_ s8 zq=>zq.elim λσ8 zq=>zq.elim λH8 zq=>zq.elim λI8 q8=>?_;refine cg (htc _ s8 σ8 H8 _ I8 q8) λb s9 zq=>zq.elim λH9 zq=>zq.elim λI9 q9=>?_;have again:∀{σ':St}{H':Hp}{s':Mf}{m':Nat},Inv (bf X scope N (bR X.env.cells scope.names []) s3.heap.objs.size fp s3 H3 E') ([]++my fp s7.heap) σ' H' s'->m'<n->W (i+1) m' σ' H'->
          ∃m,m<n/\∃i σ' H',Inv (bf X scope N (bR X.env.cells scope.names []) s3.heap.objs.size fp s3 H3 E') [] σ' H' s'/\tn i s'.heap/\(∀b∈fp,H' b=none)/\W i m σ' H':=λ{σ' H' s' m'} I' hm w'=>by
        refine⟨m',hm,i+1,σ',H',I'.unpinned,T.keep _ _ _ st7 λb hb' o e=>(I'.pin (b,o) (IK _ (IK _ (gb hb' e)))).1,λb hb'=>?_,w'⟩;obtain⟨o,e,d⟩:=T.obj _ _ st7 b hb';exact(I'.pin (b,o) (IK _ (IK _ (gb hb' e)))).2.1
      cases b with
      |false=>
        rw[if_neg II]at q9 ⊢;obtain⟨m',hm,w9⟩:=q9;exact again I9 hm w9
      |true=>
        rw[if_pos rfl]at q9 ⊢;refine cg (hel _ s9 σ8 H9 _ I9 q9) λy s10 zq=>zq.elim λv zq=>zq.elim λH10 zq=>zq.elim λI10 zq=>zq.elim λr10 q10=>?_;obtain⟨acc,ha,hz,m',hm,w10⟩:=q10;refine cg (ny _ s10 σ8 H10 (.ref s2.heap.objs.size) [v] (.ref s2.heap.objs.size) [y] (λ_ H'=>H'=upd H10 s2.heap.objs.size (.lst (acc++[v]))) I10 rfl (.cons r10 .nil) ⟨_,acc,v,rfl,rfl,ha,hz,rfl⟩) λ_ s11 zq=>zq.elim λ_ zq=>zq.elim λH11 zq=>zq.elim λI11 zq=>zq.elim λ_ Ho=>?_;subst Ho;exact again I11 hm w10
  subst hs3;exact codeAny_compStart_list (loop _) (T.self _ 0 _ _ _ tn1 (loop _))
theorem BA(hc:X.calm=true)(hcell:∀y∈scope.names,y.2≠.cell)(hkind:scope.kind=.function)(hnames:∀y∈scope.names,y.2=.local->scope.names.lookup y.1=some .local)
  (hfr:∀y∈scope.names,y.2=.free->X.env.scope.names.lookup y.1=some .cell\/X.env.scope.names.lookup y.1=some .free)
  (hix:o8 X.N N scope.names ix=true) (hi:PI X tg iter wi)
  (hb:∀cl C fp s H E,PG (bf X scope N cl C fp s H E) tg g/\DF (bf X scope N cl C fp s H E) ifs tc/\PE (bf X scope N cl C fp s H E) elt te)
  (hs:∀x,Mz iter X.env x=pure x:=by intro _;rfl):PE X (.ListComp elt [⟨tg,iter,ifs,0⟩] scope pos) (Gb wi g tc te ix):=by
 intro pins s σ H Q I h;rw[eval_ListComp];refine M5 (use:=none) rfl hs (jt λp hp hk=>I.ok.has p.1 (hfr p hp hk)) hkind hnames (cg (hi pins s σ H _ I h) λv s1 h1=>cg h1 λitv s2 h2=>?_);obtain⟨it,fp,tn,J,H2,e,I2,T,st2,f2,q⟩:=h2;subst e;refine lM (Q:=Q) (RR:=λacc C=>compPost `i X.A X.xe none (EP X pins σ Q) acc C) hc hcell hkind hfr hix hb I2 T st2 f2 q ?_;intro D C H' s' m _ _ _ hn hI hq;exact⟨m,hn,λh' sb=>⟨.ref D,H',hI h' sb,rfl,hq⟩⟩
theorem yT{i:Nat}{y:Str}{py spos:Pos}(hN:X.N.Nodup)(hi':X.N[i]?=some y)(hx:Loc X.env.scope y)
  (hc:X.calm=true) (hcell:∀y∈scope.names,y.2≠.cell) (hkind:scope.kind=.function) (hnames:∀y∈scope.names,y.2=.local->scope.names.lookup y.1=some .local)
  (hfr:∀y∈scope.names,y.2=.free->X.env.scope.names.lookup y.1=some .cell\/X.env.scope.names.lookup y.1=some .free)
  (hix:o8 X.N N scope.names ix=true) (hi:PI X tg iter wi)
  (hb:∀cl C fp s H E,PG (bf X scope N cl C fp s H E) tg g/\DF (bf X scope N cl C fp s H E) ifs tc/\PE (bf X scope N cl C fp s H E) elt te)
  (hsw:swapsWith (.ListComp elt [⟨tg,iter,ifs,0⟩] scope pos) (some (.Name y py)) spos.line X.env=pure true:=by rfl)
  (hs:∀x,Mz iter X.env x=pure x:=by intro _;rfl)
  (hf:X.fn y=true\/X.env.scope.names.lookup y=some .local:=by first|exact .inl rfl|exact .inr rfl|assumption):
  PS X (.Assign [.Name y py] (.ListComp elt [⟨tg,iter,ifs,0⟩] scope pos) spos) (wG (Gb wi g tc te ix) (n9 i)):=by
 intro pins s σ H D0 I h;rw[exec_Assign_Name_used _ _ _ _ hsw];refine My (M4 (My ?_));show Mr _ X.A (do let _<-comprehension (.ListComp elt [⟨tg,iter,ifs,0⟩] scope pos) scope X.env _ (newList []) false (eval iter X.env) (some (assign (.Name y py) X.env))) _ _ s;refine My (cg (M5 (use:=some (assign (.Name y py) X.env)) (Q:=λ_ s'=>SP X pins D0 .next s') rfl hs (jt λp hp hk=>I.ok.has p.1 (hfr p hp hk)) hkind hnames
  (cg (hi pins s σ H _ I h) λv s1 h1=>cg h1 λitv s2 h2=>?_)) λ_ s' hq=>Mx (Mx hq))
 obtain⟨it,fp,tn,J,H2,e,I2,T,st2,f2,q⟩:=h2;subst e;refine lM (Q:=λv H'=>n9 i v σ H' D0.nx) (RR:=λacc C=>compPost `i X.A X.xe (some (assign (.Name y py) X.env)) (λ_ s'=>SP X pins D0 .next s') acc C) hc hcell hkind hfr hix hb I2 T st2 f2 q ?_;intro D C H' s' m _ hC hfree hn hI hq;have I':Inv X pins σ H' s':=hI s'.heap (.refl ..);have nL:C≠X.env.locals:=Nat.ne_of_gt (Ir I2.lt hC);have nC:∀x c,X.env.cells.lookup x=some c->c≠C:=λx c e z=>by
  obtain⟨v,q⟩:=I2.cell x c e;exact absurd (Ir q.lt (by rw[z];exact hC)) (Iu _)
 have nP:∀p∈X.pn++pins,p.1≠C:=λp hp z=>absurd (Ir (Lv (I2.pin p hp).1) (by rw[z];exact hC)) (Iu _);show Mr _ X.A (assign (.Name y py) X.env (.ref D)) _ _ _;refine wpAny_assign_Name (m9 I' hN hi' hx (v:=.ref D) rfl (λs'' I'' ch=>?_) hf);obtain⟨a,sb,ha⟩:=ch;have hCa:C≠a:=by
  rcases ha with ha|ha
  ·rw[ha];exact nL
  ·exact Ne.symm (nC y a ha)
 refine⟨m,hn.sameBut sb hCa,λh' sb'=>⟨_,H',?_,hq⟩⟩;exact I''.turned (t':=s''.toks) (λb o hb' e=>(sb'.2 b hb').trans e) hfree nL (.inr (Iy I2.sz hC)) nC nP
end
end L2
namespace TG
open PySem PySem.Spec
noncomputable def DP{α:Type}:Sem α->Prop
 |.pure _=>True
 |.raise _=>True
 |.unsupported _=>True
 |.finish _=>True
 |.rule _ k=>DP (k ())
 |.at _ k=>DP (k ())
 |.load _ _ k=>∀o,DP (k o)
 |.update _ _ f k=>(∀o,(f o).dict=o.dict)/\DP (k ())
 |.loadIfAlive _ k=>∀o,DP (k o)
 |.point _ k=>DP (k ())
 |.alloc _ k=>∀a,DP (k a)
 |.fresh k=>∀a,DP (k a)
 |.ask k=>∀a,DP (k a)
 |.stack k=>∀a,DP (k a)
 |_=>False
theorem DP.bind{α β:Type}{f:α->Sem β}(hf:∀a,DP (f a)):∀{m:Sem α},DP m->DP (m >>= f):=λ{m} h=>by
 show DP (m.bind f)
 induction m with
 |pure a=>exact hf a
 |raise _=>trivial
 |unsupported _=>trivial
 |finish _=>trivial
 |rule _ k ih=>exact ih () h
 |«at» _ k ih=>exact ih () h
 |load _ _ k ih=>exact λo=>ih o (h o)
 |update _ _ g k ih=>exact⟨h.1,ih () h.2⟩
 |loadIfAlive _ k ih=>exact λo=>ih o (h o)
 |point _ k ih=>exact ih () h
 |alloc _ k ih=>exact λo=>ih o (h o)
 |fresh k ih=>exact λo=>ih o (h o)
 |ask k ih=>exact λo=>ih o (h o)
 |stack k ih=>exact λo=>ih o (h o)
 |_=>exact h.elim
noncomputable def DS(h h':Mj):Prop:=∀(a:Nat)(o:Obj),h.objs[a]?=some o->∃o',h'.objs[a]?=some o'/\o'.dict=o.dict
theorem DS.refl(h:Mj):DS h h:=λ_ o e=>⟨o,e,rfl⟩
theorem DS.trans{h1 h2 h3:Mj}(x:DS h1 h2)(y:DS h2 h3):DS h1 h3:=λa o e=>by
 obtain⟨o1,e1,d1⟩:=x a o e;obtain⟨o2,e2,d2⟩:=y a o1 e1;exact⟨o2,e2,d2.trans d1⟩
theorem pQ{h:Mj}{a:Ma}{o:Obj}(e:h.get? a=some o):h.objs[a]?=some o:=by
 unfold Heap.get? at e;split at e
 ·cases e
 ·exact e
theorem DS.dict{h h':Mj}(x:DS h h'){a:Ma}{o o':Obj}(e:h.get? a=some o)(e':h'.get? a=some o'):o'.dict=o.dict:=by
 obtain⟨o1,e1,d1⟩:=x a o (pQ e);rw[pQ e']at e1;cases e1;exact d1
theorem DS.push(h:Mj)(o:Obj):DS h (h.push o):=λa u e=>⟨u,by
 show(h.objs.push o)[a]?=_
 have:=(Array.getElem?_eq_some_iff.mp e).1
 rw[Array.getElem?_push,if_neg `o];exact e,rfl⟩
theorem DS.upd(h:Mj)(b:Ma){f:Obj->Obj}(hf:∀o,(f o).dict=o.dict):DS h (h.update b f):=λa u e=>by
 show∃o',(h.objs.modify b f)[a]?=some o'/\_;rw[Array.getElem?_modify,e];split
 ·exact⟨_,rfl,hf u⟩
 ·exact⟨_,rfl,rfl⟩
theorem DP.wp{α:Type}{M:Mq}{Γ:PySem.Ctx}{Q:α->Pos->Mf->Prop}{E:L8->Pos->Mf->Prop}{t:Sem α}(d:DP t){p:Pos}{s:Mf}(h:Sem.wp M Γ t Q E p s):Sem.wp M Γ t (λa p' s'=>Q a p' s'/\DS s.heap s'.heap) (λa p' s'=>E a p' s'/\DS s.heap s'.heap) p s:=by
 have go:∀(h0:Mj)(p:Pos)(s:Mf),DS h0 s.heap->Sem.wp M Γ t Q E p s->Sem.wp M Γ t (λa p' s'=>Q a p' s'/\DS h0 s'.heap) (λa p' s'=>E a p' s'/\DS h0 s'.heap) p s:=by
  intro h0;clear h
  induction t with
  |pure a=>exact λp s z h=>⟨h,z⟩
  |raise a=>exact λp s z h=>⟨h,z⟩
  |unsupported _=>exact λp s z h=>h
  |finish _=>exact λp s z h=>h
  |rule _ k ih=>exact λp s z h=>ih () d p s z h
  |«at» q k ih=>exact λp s z h=>ih () d q s z h
  |load a _ k ih=>exact λp s z h=>let ⟨o,ho,h⟩:=h;⟨o,ho,ih o (d o) p s z h⟩
  |update a _ f k ih=>exact λp s z h=>⟨h.1,ih () d.2 p _ (z.trans (DS.upd _ a d.1)) h.2⟩
  |loadIfAlive a k ih=>exact λp s z h=>ih _ (d _) p s z h
  |point _ k ih=>exact λp s z h=>ih () d p s z h
  |alloc o k ih=>exact λp s z h=>ih _ (d _) p _ (z.trans (DS.push _ o)) h
  |fresh k ih=>exact λp s z h=>ih _ (d _) p _ z h
  |ask k ih=>exact λp s z h=>ih _ (d _) p _ z h
  |stack k ih=>exact λp s z h=>ih _ (d _) p _ z h
  |_=>exact d.elim
 exact go s.heap p s (DS.refl _) h
theorem DP.any{α:Type}{M:Mq}{A:Mo}{Q:α->Mf->Prop}{E:L8->Mf->Prop}{t:Sem α}{s:Mf}(d:DP t)(h:Mr M A t Q E s):Mr M A t (λa s'=>Q a s'/\DS s.heap s'.heap) E s:=λΓ p hi=>Sem.wp_mono _ _ _ (λ_ _ _ x=>x) (λ_ _ _ x=>x.1) _ _ (d.wp (h Γ p hi))
theorem DP.go{M:Mq}{A:Mo}{Q:Unit->Mf->Prop}{E:L8->Mf->Prop}{t:Sem Unit}{s:Mf}{P:Mj->Prop}(d:DP t)(h:Mr M A t (λ_ s'=>∃h',s'={s with heap:=h'}/\P h') E s)(k:∀h',P h'->DS s.heap h'->Q () {s with heap:=h'}):Mr M A t Q E s:=Mt (d.any h) (λ_ s' z=>by
 obtain⟨⟨h',rfl,p⟩,ds⟩:=z;exact k h' p ds) λ_ _ z=>z
theorem jd(v:L8)(i:Nat):DP (field v i):=by
 unfold field fieldsOf;cases v with
 |ref a=>
  refine DP.bind (λxs=>?_) ?_
  ·split<;>trivial
  ·refine DP.bind (λo=>?_) (λo=>trivial);split<;>trivial
 |_=>exact DP.bind (λxs=>by split<;>trivial) trivial
theorem t9(a:Ma):DP (load a):=λ_=>trivial
theorem B7(f:Array L8->Array L8)(o:Obj):(Obj.mapFields f o).dict=o.dict:=by
 unfold Obj.mapFields;split<;>rfl
theorem sI(v:L8)(i:Nat)(x:L8):DP (setField v i x):=by
 unfold setField;cases v with
 |ref a=>
  unfold updateField;refine DP.bind (λo=>?_) (t9 a);split
  ·split
   ·exact⟨B7 _,trivial⟩
   ·trivial
  ·trivial
 |_=>trivial
theorem kq(e:L8)(f:Option Ma):DP (setFlight e f):=by
 unfold setFlight;refine DP.bind (λtb=>?_) (jd _ _);split
 ·exact sI _ _ _
 ·trivial
theorem yi:DP stack:=λ_=>trivial
theorem wt:DP underTheClaimsCaller:=by
 unfold underTheClaimsCaller;exact λ_=>trivial
theorem qm:∀l:List Env,DP (readyFrames l)
 |[]=>trivial
 |env::outer=>by
  unfold readyFrames;cases env.frame with
  |none=>trivial
  |some f=>
   refine DP.bind ?_ (t9 f);intro o;split
   ·trivial
   ·refine DP.bind ?_ ?_
    ·intro b;refine DP.bind ?_ ?_
     ·intro b;refine DP.bind ?_ ?_
      ·intro _;exact qm outer
      ·exact⟨λ_=>rfl,trivial⟩
     ·unfold keptBack;split
      ·split
       ·trivial
       ·refine DP.bind ?_ wt;intro _;trivial
      ·trivial
    ·unfold behindIsImport;split
     ·trivial
     ·split
      ·trivial
      ·refine DP.bind ?_ (jd _ _);intro _;trivial
theorem z9:DP frameEnvs:=λ_=>trivial
theorem sE(env:Env):DP (frameOf env):=by
 unfold frameOf;refine DP.bind ?_ z9;intro l;refine DP.bind ?_ ?_
 ·intro f;split<;>trivial
 ·unfold frameObject;split
  ·trivial
  ·refine DP.bind ?_ (qm _);intro _;trivial
theorem Dd(ty:String)(vs:List L8):DP (newFields ty vs):=by
 unfold newFields newObj;dsimp only;split
 ·trivial
 ·exact λ_=>trivial
theorem yQ(f:Ma)(b:Bool):DP (entryPlaceOf f b):=by
 unfold entryPlaceOf;refine DP.bind ?_ yi;intro l;split<;>trivial
theorem sY(e:L8)(env:Env):DP (noteFrame e env):=by
 unfold noteFrame;cases env.frame with
 |none=>trivial
 |some f=>
  have tl:∀head:L8,DP (do setField e 1 (<-EntryCells.newEntry head (<-frameOf env) .none (rawInt f) .none (<-entryPlaceOf f (head !=.none)))):=λhead=>by
   refine DP.bind ?_ (sE env);intro a;refine DP.bind ?_ (yQ _ _);intro b;refine DP.bind ?_ (Dd _ _);intro c;exact sI _ _ _
  refine DP.bind ?_ (jd _ _);intro head;dsimp only;split
  ·refine DP.bind ?_ (jd _ _);intro x;split
   ·trivial
   ·refine DP.bind ?_ (sI _ _ _);intro _;exact tl head
  ·exact tl head
theorem rM(env:Env)(e:L8):DP (leaving env e):=by
 unfold leaving;refine DP.bind ?_ (sY _ _);intro _;exact kq _ _
open PySem PySem.Spec L2
inductive D where
 |non|bl (b:Bool)|int (i:Int)|str (x:Str)|tup (xs:List D)|lst (xs:List D)
 |dct (ks vs:List D)|obj (c:Str) (fs:ay) (vs:List D)|exc (c:Str) (fs:ay) (vs:List D)
noncomputable abbrev bu:=List (List Key×D)
noncomputable abbrev iU:=Option (List D)
noncomputable abbrev aU:=Option D
noncomputable def aJ:Key->D
 |.inl i=>.int i
 |.inr x=>.str x
noncomputable def clsAt(K:KZ)(c:Str)(C:Ma):Prop:=Lb K Ml c=some (some (.ref C))
noncomputable def ra(C a:Ma)(dx:Option Ma):(Ma->Prop)->Mj->Prop:=λ_ h=>∃o,h.get? a=some o/\o.cls=.ref C/\o.dict=dx/\Lc o=true
mutual
noncomputable def bv(K:KZ)(H:Hp):D->V->Prop
 |.non,v=>v=.non
 |.bl b,v=>v=.bl b
 |.int i,v=>v=.int i
 |.str x,v=>v=.str x
 |.tup xs,v=>∃a vs,v=.ref a/\H a=some (.tup vs)/\ax K H xs vs
 |.lst xs,v=>∃a vs,v=.ref a/\jG K H a vs/\ax K H xs vs
 |.dct ks ds,v=>∃a vs,v=.ref a/\ax K H ds vs/\((∃kvs:List (Key×V),H a=some (.dK kvs)/\ks=kvs.map (λp=>aJ p.1)/\vs=kvs.map (·.2)) \/
   (∃kvs:List (List Key×V),H a=some (.dT kvs)/\ks=kvs.map (λp=>.tup (p.1.map aJ))/\vs=kvs.map (·.2)) \/
   ∃(kvs:List (List Key×V))(o:Obj),H a=some (.frz o (.dT kvs))/\ks=.non::kvs.map (λp=>.tup (p.1.map aJ))/\vs=kvs.map (·.2))
 |.obj c fs ds,v=>∃a vs,v=.ref a/\ax K H ds vs/\fs.length=vs.length/\∃C dx,clsAt K c C/\H a=some (.ins C dx (fs.zip vs))
 |.exc c fs ds,v=>∃a vs,v=.ref a/\ax K H ds vs/\fs.length=vs.length/\∃C dx,clsAt K c C/\H a=some (.ext (ra C a dx))/\(fs=[]\/∃d,dx=some d/\H d=some (.xd (fs.zip vs)))
noncomputable def ax(K:KZ)(H:Hp):List D->aB->Prop
 |[],vs=>vs=[]
 |x::xs,vs=>∃v r,vs=v::r/\bv K H x v/\ax K H xs r
end
theorem aV{K:KZ}{H H':Hp}{a:Ma}{xs:aB}(e:aI H H')(h:H a=some (.tup xs)):mK K H' a xs:=mK.of (e _ _ h)
mutual
theorem bv.mono{K:KZ}{H H':Hp}(e:aI H H'):∀{d:D}{v:V},bv K H d v->bv K H' d v
 |.non,_,h=>by unfold bv at h ⊢;exact h
 |.bl _,_,h=>by unfold bv at h ⊢;exact h
 |.int _,_,h=>by unfold bv at h ⊢;exact h
 |.str _,_,h=>by unfold bv at h ⊢;exact h
 |.tup xs,_,h=>by
  unfold bv at h ⊢;obtain⟨a,vs,e1,h1,h2⟩:=h;exact⟨a,vs,e1,e _ _ h1,ax.mono e h2⟩
 |.lst xs,_,h=>by
  unfold bv at h ⊢;obtain⟨a,vs,e1,h1,h2⟩:=h;exact⟨a,vs,e1,e.seq h1,ax.mono e h2⟩
 |.dct _ ds,_,h=>by
  unfold bv at h ⊢;obtain⟨a,vs,e1,h1,h2⟩:=h;refine⟨a,vs,e1,ax.mono e h1,?_⟩;rcases h2 with⟨kvs,h2,h3⟩|⟨kvs,h2,h3⟩|⟨kvs,o,h2,h3⟩
  ·exact .inl ⟨kvs,e _ _ h2,h3⟩
  ·exact .inr (.inl ⟨kvs,e _ _ h2,h3⟩)
  ·exact .inr (.inr ⟨kvs,o,e _ _ h2,h3⟩)
 |.obj _ _ ds,_,h=>by
  unfold bv at h ⊢;obtain⟨a,vs,e1,h1,h2,C,dx,h3,h4⟩:=h;exact⟨a,vs,e1,ax.mono e h1,h2,C,dx,h3,e _ _ h4⟩
 |.exc _ _ ds,_,h=>by
  unfold bv at h ⊢;obtain⟨a,vs,e1,h1,h2,C,dx,h3,h4,h5⟩:=h;exact⟨a,vs,e1,ax.mono e h1,h2,C,dx,h3,e _ _ h4,h5.imp id λzq=>zq.elim λd zq=>zq.elim λq1 q2=>⟨d,q1,e _ _ q2⟩⟩
theorem ax.mono{K:KZ}{H H':Hp}(e:aI H H'):∀{ds:List D}{vs:aB},ax K H ds vs->ax K H' ds vs
 |[],_,h=>by unfold ax at h ⊢;exact h
 |x::xs,_,h=>by
  unfold ax at h ⊢;obtain⟨v,r,e1,h1,h2⟩:=h;exact⟨v,r,e1,bv.mono e h1,ax.mono e h2⟩
end
section
variable{K:KZ}{H:Hp}
theorem fP{v:V}:bv K H .non v↔v=.non:=by unfold bv;rfl
theorem gC{b:Bool}{v:V}:bv K H (.bl b) v↔v=.bl b:=by unfold bv;rfl
theorem dm{i:Int}{v:V}:bv K H (.int i) v↔v=.int i:=by unfold bv;rfl
theorem cM{x:Str}{v:V}:bv K H (.str x) v↔v=.str x:=by unfold bv;rfl
theorem bh{xs:List D}{v:V}:bv K H (.tup xs) v↔∃a vs,v=.ref a/\H a=some (.tup vs)/\ax K H xs vs:=by unfold bv;rfl
theorem bn{xs:List D}{v:V}:bv K H (.lst xs) v↔∃a vs,v=.ref a/\jG K H a vs/\ax K H xs vs:=by unfold bv;rfl
theorem Gm{ks ds : List D}{v : V}: bv K H (.dct ks ds) v ↔ ∃ a vs, v = .ref a /\ ax K H ds vs /\ ((∃ kvs : List (Key × V), H a = some (.dK kvs) /\ ks = kvs.map (fun p => aJ p.1) /\ vs = kvs.map (·.2)) \/
      (∃kvs:List (List Key×V),H a=some (.dT kvs)/\ks=kvs.map (λp=>.tup (p.1.map aJ))/\vs=kvs.map (·.2)) \/
      ∃(kvs:List (List Key×V))(o:Obj),H a=some (.frz o (.dT kvs))/\ks=.non::kvs.map (λp=>.tup (p.1.map aJ))/\vs=kvs.map (·.2)):=by unfold bv;rfl
theorem Af{c:Str}{fs:ay}{ds:List D}{v:V}:bv K H (.obj c fs ds) v↔∃a vs,v=.ref a/\ax K H ds vs/\fs.length=vs.length/\∃C dx,clsAt K c C/\H a=some (.ins C dx (fs.zip vs)):=by unfold bv;rfl
theorem Gh{c:Str}{fs:ay}{ds:List D}{v:V}:bv K H (.exc c fs ds) v↔∃a vs,v=.ref a/\ax K H ds vs/\fs.length=vs.length/\∃C dx,clsAt K c C/\H a=some (.ext (ra C a dx))/\(fs=[]\/∃d,dx=some d/\H d=some (.xd (fs.zip vs))):=by unfold bv;rfl
theorem bB{vs:aB}:ax K H [] vs↔vs=[]:=by unfold ax;rfl
theorem aK{x:D}{xs:List D}{vs:aB}:ax K H (x::xs) vs↔∃v r,vs=v::r/\bv K H x v/\ax K H xs r:=by conv=>lhs;unfold ax
theorem ax.length:∀{ds:List D}{vs:aB},ax K H ds vs->ds.length=vs.length
 |[],_,h=>by rw[bB]at h;rw[h];rfl
 |_::xs,_,h=>by
  rw[aK]at h;obtain⟨v,r,e,_,h⟩:=h;rw[e,Jl,Jl,ax.length h]
theorem ax.get:∀{ds:List D}{vs:aB}{i:Nat}{d:D},ax K H ds vs->ds[i]?=some d->∃v,vs[i]?=some v/\bv K H d v
 |[],_,_,_,_,e=>by simp at e
 |x::xs,_,0,d,h,e=>by
  rw[aK]at h;obtain⟨v,r,rfl,h1,_⟩:=h;simp at e;subst e;exact⟨v,rfl,h1⟩
 |x::xs,_,i+1,d,h,e=>by
  rw[aK]at h;obtain⟨v,r,rfl,_,h2⟩:=h;obtain⟨w,e1,e2⟩:=ax.get (i:=i) h2 (by simpa using e);exact⟨w,by simpa using e1,e2⟩
theorem ax.append:∀{ds es:List D}{vs ws:aB},ax K H ds vs->ax K H es ws->ax K H (ds++es) (vs++ws)
 |[],_,_,_,h,h'=>by rw[bB]at h;subst h;exact h'
 |x::xs,_,_,_,h,h'=>by
  rw[aK]at h;obtain⟨v,r,rfl,h1,h2⟩:=h;rw[Jv,aK];exact⟨v,_,rfl,h1,ax.append h2 h'⟩
theorem ax.take:∀{ds:List D}{vs:aB}(n:Nat),ax K H ds vs->ax K H (ds.take n) (vs.take n)
 |_,_,0,_=>by rw[List.take_zero,List.take_zero,bB]
 |[],_,_+1,h=>by rw[bB]at h;subst h;rw[Ip,Ip,bB]
 |x::xs,_,n+1,h=>by
  rw[aK]at h;obtain⟨v,r,rfl,h1,h2⟩:=h;rw[Jw,Jw,aK];exact⟨v,_,rfl,h1,ax.take n h2⟩
theorem ax.drop:∀{ds:List D}{vs:aB}(n:Nat),ax K H ds vs->ax K H (ds.drop n) (vs.drop n)
 |_,_,0,h=>by rw[Jx,Jx];exact h
 |[],_,_+1,h=>by rw[bB]at h;subst h;rw[Iq,Iq,bB]
 |x::xs,_,n+1,h=>by
  rw[aK]at h;obtain⟨v,r,rfl,h1,h2⟩:=h;rw[Jy,Jy];exact ax.drop n h2
theorem ax.snoc{ds:List D}{vs:aB}{d:D}{v:V}(h:ax K H ds vs)(h':bv K H d v):ax K H (ds++[d]) (vs++[v]):=
 h.append (aK.mpr ⟨v,[],rfl,h',bB.mpr rfl⟩)
theorem ax.one{d:D}{vs:aB}(h:ax K H [d] vs):∃v,vs=[v]/\bv K H d v:=by
 rw[aK]at h;obtain⟨v,r,rfl,h1,h2⟩:=h;rw[bB]at h2;subst h2;exact⟨v,rfl,h1⟩
theorem ax.two{d e:D}{vs:aB}(h:ax K H [d,e] vs):∃v w,vs=[v,w]/\bv K H d v/\bv K H e w:=by
 rw[aK]at h;obtain⟨v,r,rfl,h1,h2⟩:=h;obtain⟨w,rfl,h3⟩:=h2.one;exact⟨v,w,rfl,h1,h3⟩
theorem oa:∀ns:List Int,ax K H (ns.map D.int) (ns.map V.int)
 |[]=>bB.mpr rfl
 |n::ns=>aK.mpr ⟨_,_,rfl,dm.mpr rfl,oa ns⟩
end
noncomputable def hid(H:Hp)(O:au):Hp:=λb=>if b∈O then none else H b
theorem aj(H:Hp)(O:au):aI (hid H O) H:=λb o h=>by
 unfold hid at h;split at h
 ·cases h
 ·exact h
theorem aM{H H':Hp}{O:au}(e:aI H H'):aI (hid H O) (hid H' O):=λb o h=>by
 unfold hid at h ⊢;by_cases hb:b∈O
 ·rw[if_pos hb]at h;cases h
 ·rw[if_neg hb]at h ⊢;exact e b o h
theorem gx{H:Hp}{O O':au}(s:∀a∈O,a∈O'):aI (hid H O') (hid H O):=λb o h=>by
 unfold hid at h ⊢;by_cases hb:b∈O'
 ·rw[if_pos hb]at h;cases h
 ·rw[if_neg hb]at h;rw[if_neg λz=>hb (s b z)];exact h
theorem Bg(H:Hp):hid H []=H:=by funext b;unfold hid;simp
theorem oH{H:Hp}{O:au}{p:Ma}{o:HO}(h:H p=none):aI (hid H O) (hid (upd H p o) O):=λb u q=>by
 unfold hid at q ⊢;by_cases hb:b∈O
 ·rw[if_pos hb]at q;cases q
 ·rw[if_neg hb]at q ⊢;rw[ai (aP q h)];exact q
theorem aW{H:Hp}{p:Ma}(h:H p=none)(o:HO):aI H (upd H p o):=λb u q=>by rw[ai (aP q h)];exact q
theorem cQ{H:Hp}{O:au}{p:Ma}(h:p∉O):hid H O p=H p:=by unfold hid;rw[if_neg h]
theorem dI{H:Hp}{O:au}{p:Ma}{o:HO}(h:p∈O):aI (hid H O) (hid (upd H p o) O):=λb u q=>by
 unfold hid at q ⊢;by_cases hb:b∈O
 ·rw[if_pos hb]at q;cases q
 ·rw[if_neg hb]at q ⊢;rw[ai (λz=>hb (by rw[z];exact h))];exact q
inductive S where
 |val (d:D)|own (d:D)|nest (d:D)
noncomputable abbrev ak:=List (Option S)
noncomputable def kF:HO->Prop
 |.lst _=>True
 |.dK _=>True
 |.dT _=>True
 |_=>False
class aq where
 tab:Hp->Prop
 same:∀{H H':Hp},tab H->aI H H'->tab H'
 own:∀{H:Hp}{p:Ma}{o o':HO},tab H->H p=some o->kF o->tab (upd H p o')
variable[aq]
noncomputable def bQ(H:Hp)(O:au):Prop:=aq.tab H/\∀a∈O,∃o,H a=some o/\kF o
theorem bQ.not{H:Hp}{O:au}(h:bQ H O){p:Ma}(n:H p=none):p∉O:=λz=>by
 obtain⟨vs,e,_⟩:=h.2 p z;rw[n]at e;cases e
theorem bQ.same{H H':Hp}{O:au}(h:bQ H O)(e:aI H H'):bQ H' O:=⟨aq.same h.1 e,λa ha=>let ⟨vs,q,m⟩:=h.2 a ha;⟨vs,e _ _ q,m⟩⟩
theorem bQ.upd{H:Hp}{O:au}{p:Ma}{o:HO}(h:bQ H O)(hp:p∈O)(m:kF o):bQ (L2.upd H p o) O:=⟨let ⟨_,q,r⟩:=h.2 p hp;aq.own h.1 q r,λa ha=>by
 by_cases z:a=p
 ·rw[z];exact⟨o,ah,m⟩
 ·obtain⟨u,q,r⟩:=h.2 a ha;exact⟨u,by rw[ai z];exact q,r⟩⟩
theorem bQ.cons{H:Hp}{O:au}{p:Ma}{o:HO}(h:bQ H O)(hp:H p=some o)(m:kF o):bQ H (p::O):=⟨h.1,λa ha=>by
 rcases List.mem_cons.mp ha with z|z
 ·rw[z];exact⟨o,hp,m⟩
 ·exact h.2 a z⟩
noncomputable def bT(K:KZ)(H:Hp)(O:au)(a:Ma)(d:D):Prop:=∃o vs,H a=some o/\match d with
 |.lst xs=>o=.lst vs/\ax K (hid H O) xs vs
 |.dct ks ds=>ax K (hid H O) ds vs/\((∃kvs:List (Key×V),o=.dK kvs/\ks=kvs.map (λp=>aJ p.1)/\vs=kvs.map (·.2)) \/
   ∃kvs:List (List Key×V),o=.dT kvs/\ks=kvs.map (λp=>.tup (p.1.map aJ))/\vs=kvs.map (·.2))
 |_=>False
theorem bT.mono{K:KZ}{H H':Hp}{O O':au}{a:Ma}{d:D}(h:bT K H O a d)(e:H a=H' a)(s:aI (hid H O) (hid H' O')):bT K H' O' a d:=by
 obtain⟨o,vs,h1,h2⟩:=h;refine⟨o,vs,by rw[<-e];exact h1,?_⟩;cases d with
 |lst xs=>exact⟨h2.1,h2.2.mono s⟩
 |dct ks ds=>exact⟨h2.1.mono s,h2.2⟩
 |_=>exact h2
theorem bT.some{K:KZ}{H:Hp}{O:au}{a:Ma}{d:D}(h:bT K H O a d):∃o,H a=some o:=let ⟨o,_,e,_⟩:=h;⟨o,e⟩
theorem bT.den{K:KZ}{H:Hp}{O O':au}{a:Ma}{d:D}(h:bT K H O a d)(s:aI (hid H O) (hid H O'))(ha:a∉O'):bv K (hid H O') d (.ref a):=by
 obtain⟨o,vs,h1,h2⟩:=h;have h1':hid H O' a=Option.some o:=by rw[cQ ha];exact h1
 cases d with
 |lst xs=>
  obtain⟨e,g⟩:=h2;subst e;exact bn.mpr ⟨a,vs,rfl,jG.of h1',g.mono s⟩
 |dct ks ds=>
  obtain⟨g,q⟩:=h2;refine Gm.mpr ⟨a,vs,rfl,g.mono s,?_⟩;rcases q with⟨kvs,e,q⟩|⟨kvs,e,q⟩
  ·subst e;exact .inl ⟨kvs,h1',q⟩
  ·subst e;exact .inr (.inl ⟨kvs,h1',q⟩)
 |_=>exact h2.elim
structure b7(K:KZ)(O:au)(H:Hp)(ρ:ak)(σ:St):Prop where
 val:∀(i:Nat) d,ρ[i]?=some (some (.val d))->∃v,σ[i]?=some (some v)/\bv K (hid H O) d v
 own:∀(i:Nat) d,ρ[i]?=some (some (.own d))->∃a,σ[i]?=some (some (.ref a))/\a∈O/\bT K H O a d
 one:∀(i j:Nat) xs ys a,ρ[i]?=some (some (.own xs))->ρ[j]?=some (some (.own ys))->σ[i]?=some (some (.ref a))->σ[j]?=some (some (.ref a))->i=j
 all:bQ H O
theorem iS{H H':Hp}(e:aI H H'){a:Ma}{o:HO}(h:H a=some o):H a=H' a:=by rw[h,e _ _ h]
theorem b7.same{K:KZ}{O:au}{H H':Hp}{ρ:ak}{σ:St}(h:b7 K O H ρ σ)(e:aI H H'):b7 K O H' ρ σ:=
  ⟨fun i d q=>let ⟨v,a,b⟩:=h.val i d q; ⟨v,a,b.mono (aM e)⟩,
   λi xs q=>let ⟨a,q1,q2,q3⟩:=h.own i xs q;⟨a,q1,q2,q3.mono (let ⟨_,z⟩:=q3.some;iS e z) (aM e)⟩,h.one,h.all.same e⟩
structure Ex where
 c:Str
 fs:ay
 vs:List D
noncomputable abbrev R(α:Type):=Except (Option Ex) α
noncomputable abbrev aN:=ak->R (List D)
noncomputable abbrev aY:=ak->R Bool
noncomputable abbrev un{α:Type}:R α:=.error none
noncomputable def rO{α:Type}:Option α->R α
 |some a=>.ok a
 |none=>.error none
noncomputable def Fz(K:KZ)(Hd:Hp)(x:Ex)(C:Ma)(dx:Option Ma):Prop:=clsAt K x.c C/\∃ws,ax K Hd x.vs ws/\x.fs.length=ws.length/\(x.fs=[]\/∃d,dx=some d/\Hd d=some (.xd (x.fs.zip ws)))
theorem Fz.mono{K:KZ}{H H':Hp}{x:Ex}{C:Ma}{dx:Option Ma}(h:Fz K H x C dx)(e:aI H H'):Fz K H' x C dx:=by
 obtain⟨h1,ws,h2,h3,h4⟩:=h;exact⟨h1,ws,h2.mono e,h3,h4.imp id λzq=>zq.elim λd zq=>zq.elim λq1 q2=>⟨d,q1,e _ _ q2⟩⟩
end TG
namespace TG
open PySem PySem.Spec L2
variable[aq]
open PyProof.Rows (AllBare)
theorem yH{P:Mh}{w:Mg}{H:Hp}{h:Mj}{a:Ma}{o:HO}(x:a7 P w H h a o):∃u,h.get? a=some u:=by
 cases o with
 |lst xs=>obtain⟨_,_,_,_,e⟩:=x;exact⟨_,e⟩
 |tup xs=>obtain⟨_,_,_,o,e,_⟩:=x;exact⟨_,e⟩
 |dK kvs=>obtain⟨_,_,_,_,o,_,_,e,_⟩:=x;exact⟨_,e⟩
 |dT kvs=>obtain⟨_,_,_,_,o,_,_,e,_⟩:=x;exact⟨_,e⟩
 |set S n=>obtain⟨o,_,_,_,e,_⟩:=x;exact⟨_,e⟩
 |ins C dx fs=>obtain⟨_,_,_,e,_⟩:=x;exact⟨_,e⟩
 |own y=>exact x
 |xd fs=>obtain⟨_,⟨_,_,_,e,_⟩,_⟩:=x;exact⟨_,e⟩
 |rng lo hi=>obtain⟨_,_,_,e⟩:=x;exact⟨_,e⟩
 |frz ob u=>obtain⟨e,_⟩:=x;exact⟨_,e⟩
 |tbl ps=>exact⟨_,(show h.get? a=some _ from x)⟩
 |met f y=>exact⟨_,(show h.get? a=some _ from x)⟩
 |ext φ=>obtain⟨_,e,_⟩:=x;exact e
noncomputable def fQ(X:Cx)(H:Hp)(b:Ma):Prop:=((∃o,X.s₀.heap.get? b=some o)/\b∉X.ex)\/H b≠none\/(∃o,(b,o)∈X.pn)\/∃x,X.env.cells.lookup x=some b
noncomputable def Ii(B:Mj)(e:Ma)(cls a0:L8)(h:Mj):Prop:=h.TracedW B e cls a0\/∃oe vs,h.get? e=some oe/\oe.cls=cls/\oe.data=.fields vs/\vs[1]?=some .none/\vs[0]?=some a0
noncomputable def ue(X:Cx)(H:Hp)(s:Mf)(e C:Ma)(dx:Option Ma):Prop:=(∀oe,s.heap.get? e=some oe->oe.dict=dx)/\∃B a0,B.StaysIn s.heap/\B.get? e=none/\s.heap.FunFrames B X.stack/\Ii B e (.ref C) a0 s.heap/\∀b o,s.heap.get? b=some o->fQ X H b->b∉frs X.stack->B.get? b=some o
noncomputable def Io(X:Cx)(H:Hp)(O:au)(s:Mf)(u:L8)(x:Ex):Prop:=∃e C dx,u=.ref e/\Fz X.K (hid H O) x C dx/\ue X H s e C dx
noncomputable def kT(P:Mh)(w:Mg):t5:=λouter H s E u s'=>∃e C dx H' B a0,u=.ref e/\(∀oe,s'.heap.get? e=some oe->oe.dict=dx)/\s'.os=s.os/\AllBare s'.gens/\Un (frs outer) [] H H' s.heap s'.heap/\kN P w H' s'.heap/\LA B outer e (.ref C) a0 s'.heap/\
 (∀b o,s'.heap.get? b=some o->((∃o',s.heap.get? b=some o')\/H' b≠none)->b∉frs outer->B.get? b=some o)/\E (.ref C) dx H'
noncomputable def Hx(K:KZ)(H:Hp)(O:au)(x:Ex)(E:XK):Prop:=∀C dx H',aI H H'->Fz K (hid H' O) x C dx->E (.ref C) dx H'
noncomputable def B8(X:Cx)(σ:St)(O:au)(H:Hp)(x:Ex):Prop:=∀pins s u H',Inv X pins σ H' s->aI H H'->Io X H' O s u x->X.xe u s
theorem B8.mono{X:Cx}{σ:St}{O:au}{H H':Hp}{x:Ex}(h:B8 X σ O H x)(s:aI H H'):B8 X σ O H' x:=λpins st u H2 I s2 f=>h pins st u H2 I (s.trans s2) f
noncomputable def zc(X:Cx)(O:au)(H:Hp)(x:Ex):XK:=λu dx H'=>∃C,u=.ref C/\aI H H'/\Fz X.K (hid H' O) x C dx
noncomputable def jh(CX:t5)(X:Cx)(σ:St)(E:XK):Prop:=∀(pins:aG)(H:Hp)(s:Mf)(e:L8)(s':Mf),Inv X pins σ H s->CX X.stack H s E e s'->X.xe e s'
theorem A9{X:Cx}{σ:St}{O:au}{H:Hp}{x:Ex}(h:B8 X σ O H x):jh (kT X.prog X.w) X σ (zc X O H x):=by
 rintro pins H1 s u s' I ⟨e,C,dx,H',B,a0,rfl,hdx,os,bare,un,hok,⟨f1,f2,f3,f4⟩,kp,C',eC,sm,hd⟩;cases eC;have I':Inv X pins σ H' s':=I.call' os un hok bare (ch:=[]) λb z=>absurd z (by simp);refine h pins s' _ H' I' sm ⟨e,C,dx,rfl,hd,hdx,B,a0,f1,f2,f3,.inl f4,λb o eb hb nf=>kp b o eb ?_ nf⟩;rcases hb with⟨⟨o',hb⟩,nx⟩|hb|⟨o',hb⟩|⟨y,hb⟩
 ·exact .inl (I.base.there b o' hb nx)
 ·exact .inr hb
 ·exact .inl ⟨_,(I.pin _ (IE _ hb)).1⟩
 ·obtain⟨v,o,q,_⟩:=I.cell y b hb;exact .inl ⟨o,q⟩
theorem AW{X:Cx}{σ:St}:jh (kT X.prog X.w) X σ E0:=λ_ _ _ _ _ _ h=>by
 obtain⟨_,_,_,_,_,_,_,_,_,_,_,_,_,_,z⟩:=h;exact z.elim
theorem yy{X:Cx}{O:au}{H:Hp}{x:Ex}:Hx X.K H O x (zc X O H x):=λC dx H' s e=>⟨C,rfl,s,e⟩
section
variable{X:Cx}{pins:aG}{σ:St}{H:Hp}{s:Mf}{h':Mj}
theorem tW(I:`h)(k:∀b o,s.heap.get? b=some o->fQ X H b->b∉frs X.stack->h'.get? b=some o):kN X.prog X.w H h':=λa ob ea=>
 (I.hok a ob ea).stay (λb u hb q=>by
  have hn:H b≠none:=by
   rcases hb with e|e
   ·rw[e,ea];intro z;cases z
   ·rw[e];intro z;cases z
  exact k b u q (.inr (.inl hn)) λhf=>hn (I.stkFree b hf)) (λ_ q=>q) λ_ _ q=>q
theorem nT(I:`h)(us:s.heap.UpToSlots h'){b:Ma}{o:Obj}(hb:b∈frs X.stack)(e:s.heap.get? b=some o):∃sl,h'.get? b=some {o with slots:=sl}:=by
 obtain⟨_,o',e',nf⟩:=I.stack.mem hb;rw[e]at e';cases e';exact us b o e nf
theorem xO(I:`h)(hx:X.ex=[])(hst:X.stack=X.env::X.outer)(hf:X.env.frame=some X.env.locals)(us:s.heap.UpToSlots h')(k:∀b o,s.heap.get? b=some o->fQ X H b->b∉frs X.stack->h'.get? b=some o):
  Un (frs X.outer) [] X.H₀ H X.s₀.heap h':=by
 have U:=I.base;rw[hx]at U;have fr:frs X.stack=X.env.locals::frs X.outer:=by rw[hst];show List.filterMap _ (_::_)=_;rw[IA,hf];rfl
 have nl:∀b o,X.s₀.heap.get? b=some o->b≠X.env.locals:=λb o q z=>by
  have h1:=Lv q;have h2:=I.ok.above;rw[z]at h1;exact Iu _ (Ir h1 h2)
 have nfr:∀b o,X.s₀.heap.get? b=some o->b∉frs X.outer->b∉frs X.stack:=λb o q nb z=>by
  rw[fr]at z;rcases List.mem_cons.mp z with z|z
  ·exact nl b o q z
  ·exact nb z
 refine⟨λb o q n nb _=>k b o (U.keep b o q n nb (by simp)) (.inl ⟨⟨o,q⟩,by rw[hx];simp⟩) (nfr b o q nb),λb o q n hb _=>?_,λb o q n _=>U.free b o q n (by simp),λb o q _=>?_,U.tups,U.frzs,U.tbls⟩
 ·obtain⟨sl,e⟩:=U.slot b o q n hb (by simp);obtain⟨sl',e'⟩:=nT I us (by rw[fr];exact IC _ hb) e;exact⟨sl',e'⟩
 ·obtain⟨o1,e1⟩:=U.there b o q (by simp);by_cases hb:b∈frs X.stack
  ·obtain⟨sl,e⟩:=nT I us hb e1;exact⟨_,e⟩
  ·exact⟨o1,k b o1 e1 (.inl ⟨⟨o,q⟩,by rw[hx];simp⟩) hb⟩
end
theorem Cv{P:Mh}{w:Mg}{K:KZ}{mg:bU}{base:Mj}{N:ay}{qual:Str}{scope:Mp}{f:Ma}{cd:L8}{A:Mo}{outer:List Env}{s:Mf}{H:Hp}{E:XK}{σ:St}{O O':au}{H':Hp}{x:Ex}
  (hx:Hx K H O x E) (sm:aI H H') (hs:∀a∈O,a∈O'):B8 (gI (kT P w) P w K mg base N qual scope f cd A outer s H E) σ O' H' x:=by
 rintro pins s1 u H1 I s2 ⟨e,C,dx,rfl,hd,hdx,B,a0,b1,b2,b3,b4,b5⟩;have fin:∀h',LA B outer e (.ref C) a0 h'->s1.heap.UpToSlots h'->DS s1.heap h'->kT P w outer H s E (.ref e) {s1 with heap:=h'}:=λh' fl us ds=>by
  have k:∀b o,s1.heap.get? b=some o->fQ (gI (kT P w) P w K mg base N qual scope f cd A outer s H E) H1 b->b∉frs (gI (kT P w) P w K mg base N qual scope f cd A outer s H E).stack->h'.get? b=some o:=λb o q kb nf=>fl.1 b o (b5 b o q kb nf);have un:=xO I rfl rfl rfl us k;have hok:=tW I k;refine⟨e,C,dx,H1,B,a0,rfl,λoe' q=>?_,I.os,I.bare,un,hok,fl,λb o q hb nf=>?_,hx C dx H1 (sm.trans s2) (hd.mono (gx hs))⟩
  ·obtain⟨oe,q1⟩:∃oe,s1.heap.get? e=some oe:=by
    rcases b4 with⟨oe,_,_,_,_,h1,_⟩|⟨oe,_,h1,_⟩
    ·exact⟨oe,h1⟩
    ·exact⟨oe,h1⟩
   exact(ds.dict q1 q).trans (hdx oe q1)
  have nf2:b∉frs (gI (kT P w) P w K mg base N qual scope f cd A outer s H E).stack:=λz=>by
   rcases List.mem_cons.mp (show b∈s.heap.objs.size::frs outer from z)with z|z
   ·rcases hb with hb|hb
    ·obtain⟨o',hb⟩:=hb
     have:=Lv hb
     rw[z]at this;exact Iu _ this
    ·rw[z]at hb;exact hb I.free
   ·exact nf z
  have kb:fQ (gI (kT P w) P w K mg base N qual scope f cd A outer s H E) H1 b:=hb.elim (λz=>.inl ⟨z,λy=>nomatch y⟩) λz=>.inr (.inl z);obtain⟨o1,e1⟩:∃o1,s1.heap.get? b=some o1:=by
   rcases hb with⟨o',hb⟩|hb
   ·exact I.base.there b o' hb (λz=>nomatch z)
   ·cases q0:H1 b with
    |none=>exact absurd q0 hb
    |some ob=>exact yH (I.hok b ob q0)
  have:=k b o1 e1 kb nf2
  rw[q]at this;cases this;exact b5 b _ e1 kb nf2
 show Mr _ _ (leaving (LN qual scope s.heap.objs.size f cd) (.ref e)) _ _ s1;refine DP.go (rM _ _) (P:=λh'=>LA B outer e (.ref C) a0 h'/\s1.heap.UpToSlots h') ?_ λh' z ds=>fin h' z.1 z.2 ds;rcases b4 with b4|⟨oe,vs,c1,c2,c3,c4,c5⟩
 ·exact wpAny_leaves_onW I.ok.frames rfl ⟨b1,b2,b3,b4⟩ λh' fl us=>⟨h',rfl,fl,us⟩
 ·refine wpAny_leaving_firstW I.ok.frames b3 rfl c1 b1 b2 c3 c4 c5 λh' hL=>?_;obtain⟨k1,⟨_,_,k2⟩,k3,k4⟩:=hL;exact⟨h',rfl,⟨k1,b2,k2,c2 ▸ k3⟩,k4⟩
end TG
namespace TG
open PySem PySem.Spec L2
variable[aq]
noncomputable def gk(X:Cx)(σ:St)(O:au)(H:Hp){α:Type}(r:R α)(Q:α->Prop):Prop:=match r with
 |.ok a=>Q a
 |.error (some x)=>B8 X σ O H x
 |.error none=>False
section
variable{X:Cx}{σ:St}{O:au}{H H':Hp}{α β:Type}
theorem gk.bind{r:R α}{G:α->R β}{Q:β->Prop}(h:gk X σ O H (r.bind G) Q):gk X σ O H r λa=>gk X σ O H (G a) Q:=by
 match r,h with
 |.ok a,h=>exact h
 |.error (some x),h=>exact h
 |.error none,h=>exact h
theorem gk.imp{r:R α}{Q Q':α->Prop}(h:gk X σ O H r Q)(f:∀a,Q a->Q' a):gk X σ O H r Q':=by
 match r,h with
 |.ok a,h=>exact f a h
 |.error (some x),h=>exact h
 |.error none,h=>exact h
theorem gk.mono{r:R α}{Q:α->Prop}(h:gk X σ O H r Q)(s:aI H H'):gk X σ O H' r Q:=by
 match r,h with
 |.ok a,h=>exact h
 |.error (some x),h=>exact B8.mono h s
 |.error none,h=>exact h
theorem gk.rO{o:Option α}{Q:α->Prop}(h:gk X σ O H (rO o) Q):∃a,o=some a/\Q a:=by
 match o,h with
 |some a,h=>exact⟨a,rfl,h⟩
 |none,h=>exact h.elim
end
noncomputable abbrev FX:=ak->R D
noncomputable def tF(X:Cx)(F:FX):TE:=λσ H Q=>∃O ρ,b7 X.K O H ρ σ/\gk X σ O H (F ρ) λd=>∀v H',aI H H'->bv X.K (hid H' O) d v->Q v H'
noncomputable def Gd(X:Cx)(F:aY):TT:=λσ H Q=>∃O ρ,b7 X.K O H ρ σ/\gk X σ O H (F ρ) λb=>∀H',aI H H'->Q b H'
noncomputable def Hj(X:Cx)(F:aN):TA:=λσ H Q=>∃O ρ,b7 X.K O H ρ σ/\gk X σ O H (F ρ) λds=>∀vs H',aI H H'->ax X.K (hid H' O) ds vs->Q vs H'
noncomputable def FE(X:Cx)(e:Mb)(F:FX):Prop:=PE X e (tF X F)
noncomputable def FT(X:Cx)(e:Mb)(F:aY):Prop:=PT X e (Gd X F)
noncomputable def FW(X:Cx)(e:Mb)(F:aY):Prop:=PW X e (Gd X F)
noncomputable def FA(X:Cx)(es:aX)(F:aN):Prop:=PA X es (Hj X F)
theorem PE.weak{X:Cx}{e:Mb}{t t':TE}(h:PE X e t)(w:∀σ H Q,t' σ H Q->t σ H Q):PE X e t':=λpins s σ H Q I q=>h pins s σ H Q I (w σ H Q q)
theorem PT.weak{X:Cx}{e:Mb}{t t':TT}(h:PT X e t)(w:∀σ H Q,t' σ H Q->t σ H Q):PT X e t':=λpins s σ H Q I q=>h pins s σ H Q I (w σ H Q q)
theorem PW.weak{X:Cx}{e:Mb}{t t':TT}(h:PW X e t)(w:∀σ H Q,t' σ H Q->t σ H Q):PW X e t':=λwhole pins s σ H Q I q=>h whole pins s σ H Q I (w σ H Q q)
theorem PA.weak{X:Cx}{es:aX}{t t':TA}(h:PA X es t)(w:∀σ H Q,t' σ H Q->t σ H Q):PA X es t':=λpos pins s σ H Q I q=>h pos pins s σ H Q I (w σ H Q q)
theorem PS.weak{X:Cx}{st:Md}{t t':TS}(h:PS X st t)(w:∀D σ H,t' D σ H->t D σ H):PS X st t':=λpins s σ H Q I q=>h pins s σ H Q I (w Q σ H q)
theorem o4.weak{X:Cx}{st:cq}{t t':TS}(h:o4 X st t)(w:∀D σ H,t' D σ H->t D σ H):o4 X st t':=λpins s σ H Q I q=>h pins s σ H Q I (w Q σ H q)
noncomputable def mR(ρ:ak)(i:Nat):R D:=match ρ[i]? with
 |some (some (.val d))=>.ok d
 |_=>un
theorem Bv{ρ:ak}{i:Nat}{d:D}(h:mR ρ i=.ok d):ρ[i]?=some (some (.val d)):=by
 unfold mR at h;split at h
 ·rename_i e;cases h;exact e
 ·cases h
noncomputable def aa(i:Nat):FX:=λρ=>mR ρ i
noncomputable def fC(d:D):FX:=λ_=>.ok d
section
variable{X:Cx}
theorem vg{σ:St}{O:au}{H:Hp}{ρ:ak}{i:Nat}{Q:D->Prop}(h:gk X σ O H (mR ρ i) Q):∃d,ρ[i]?=some (some (.val d))/\Q d:=by
 cases e:mR ρ i with
 |ok d=>rw[e]at h;exact⟨d,Bv e,h⟩
 |error z=>
  rw[e]at h;cases z with
  |none=>exact h.elim
  |some x=>
   exfalso;unfold mR at e;split at e
   ·cases e
   ·have:=Except.error.inj e;cases this
theorem jA{e:Mb}{d:D}{v:V}(h:PE X e (tC v))(hd:∀K H,bv K H d v):FE X e (fC d):=
 PE.weak h λσ H Q zq=>zq.elim λO zq=>zq.elim λρ zq=>zq.elim λE q=>q v H (aI.refl H) (hd _ _)
noncomputable def noStar:Mb->Bool
 |.Starred _ _=>false
 |_=>true
theorem cC{e:Mb}{es:aX}{env:Env}(h:noStar e=true):Ms (e::es) env=(false,eval e env)::Ms es env:=by
 cases e<;>first|rfl|cases h
theorem dr{pos:Pos}{env:Env}:∀{es:aX},es.all noStar=true->(backTo pos (Ms es env)).any (·.1)=false
 |[],_=>rfl
 |e::es,h=>by
  rw[List.all_cons,Jc]at h;rw[cC h.1];exact dr h.2
noncomputable def ao:aN:=λ_=>.ok []
noncomputable def af(f:FX)(g:aN):aN:=λρ=>(f ρ).bind λx=>(g ρ).bind λxs=>.ok (x::xs)
theorem C4:FA X [] ao:=PA.weak ya λσ H Q zq=>zq.elim λO zq=>zq.elim λρ zq=>zq.elim λE q=>q [] H (aI.refl H) (bB.mpr rfl)
theorem bind_some{α β:Type}{o:Option α}{f:α->Option β}{b:β}(h:o.bind f=some b):∃a,o=some a/\f a=some b:=by
 cases o with
 |none=>cases h
 |some a=>exact⟨a,rfl,h⟩
theorem lm{ε α β:Type}{o:Except ε α}{f:α->Except ε β}{b:β}(h:o.bind f=.ok b):∃a,o=.ok a/\f a=.ok b:=by
 cases o with
 |error _=>cases h
 |ok a=>exact⟨a,rfl,h⟩
theorem tN{e:Mb}{es:aX}{f:FX}{g:aN}(he:FE X e f)(hs:FA X es g)(hns:noStar e=true:=by rfl):FA X (e::es) (af f g):=
 PA.weak (pG he hs (cC hns)) λσ H Q ⟨O,ρ,E,h⟩=>
  ⟨O,ρ,E,(gk.bind h).imp λx h v H1 s1 d1=>⟨O,ρ,E.same s1,((gk.bind h).mono s1).imp λxs q vs H2 s2 d2=>q (v::vs) H2 (s1.trans s2) (aK.mpr ⟨v,vs,rfl,d1.mono (aM s2),d2⟩)⟩⟩
noncomputable def small(n:Nat):Bool:=decide (n<=100000)
theorem bZ{n:Nat}(h:small n=true):n<=Mk:=Iy (of_decide_eq_true h) (by decide)
theorem bY{n:Nat}(h:n<=100000):small n=true:=decide_eq_true h
noncomputable def cS(xs:List D):aU:=if small xs.length then some (.tup xs)else none
noncomputable def eU(xs:List D):aU:=if small xs.length then some (.lst xs)else none
noncomputable def bJ(g:aN):FX:=λρ=>(g ρ).bind λxs=>rO (cS xs)
noncomputable def dD(g:aN):FX:=λρ=>(g ρ).bind λxs=>rO (eU xs)
theorem bg{α:Type}{c:Bool}{a b:α}(h:(if c then some a else none)=some b):c=true/\a=b:=by
 cases c with
 |true=>exact⟨rfl,Option.some.inj h⟩
 |false=>cases h
theorem eA{K:KZ}{H:Hp}{O:au}{p:Ma}{ds:List D}{vs:aB}(hO:bQ H O)(hp:H p=none)(d:ax K (hid H O) ds vs):bv K (hid (upd H p (.tup vs)) O) (.tup ds) (.ref p):=
 bh.mpr ⟨p,vs,rfl,by rw[cQ (hO.not hp),ah],d.mono (oH hp)⟩
theorem ck{K:KZ}{H:Hp}{O:au}{p:Ma}{ds:List D}{vs:aB}(hO:bQ H O)(hp:H p=none)(d:ax K (hid H O) ds vs):bv K (hid (upd H p (.lst vs)) O) (.lst ds) (.ref p):=
 bn.mpr ⟨p,vs,rfl,jG.of (by rw[cQ (hO.not hp),ah]),d.mono (oH hp)⟩
noncomputable def zG(K:KZ)(r:V->Hp->VK->Prop)(g:D->aU):Prop:=
 ∀(a d:D)(x:V)(O:au)(H:Hp)(Q:VK),bQ H O->g a=some d->bv K (hid H O) a x->(∀v H',aI H H'->bv K (hid H' O) d v->Q v H')->r x H Q
noncomputable def f1(g:D->aU)(f:FX):FX:=λρ=>(f ρ).bind λa=>rO (g a)
noncomputable def c6(K:KZ)(r:R2)(g:D->D->aU):Prop:=
 ∀(a b d:D)(x y:V)(O:au)(H:Hp)(Q:VK),bQ H O->g a b=some d->bv K (hid H O) a x->bv K (hid H O) b y->(∀v H',aI H H'->bv K (hid H' O) d v->Q v H')->r x y H Q
noncomputable def f2(g:D->D->aU)(f1 f2:FX):FX:=λρ=>(f1 ρ).bind λa=>(f2 ρ).bind λb=>rO (g a b)
theorem oB{r:R2}{g:D->D->aU}{fa fb:FX}(s:c6 X.K r g):∀σ H Q,tF X (f2 g fa fb) σ H Q->FJ r (tF X fa) (tF X fb) σ H Q:=λσ H Q zq=>zq.elim λO zq=>zq.elim λρ zq=>zq.elim λE hF=>
 ⟨O,ρ,E,(gk.bind hF).imp fun a hF x H1 s1 d1=>⟨O,ρ,E.same s1,((gk.bind hF).mono s1).imp fun b hF y H2 s2 d2=>by
  obtain⟨d,e,q⟩:=gk.rO hF;exact s a b d x y O H2 Q (E.all.same (s1.trans s2)) e (d1.mono (aM s2)) d2 λv H3 s3 d3=>q v H3 ((s1.trans s2).trans s3) d3⟩⟩
noncomputable def Hk:D->Option Bool
 |.bl b=>some b
 |_=>none
noncomputable def fB(f:FX):aY:=λρ=>(f ρ).bind λd=>rO (Hk d)
theorem xD{t:TE}{f:FX}(h:∀σ H Q,tF X f σ H Q->t σ H Q):∀σ H Q,Gd X (fB f) σ H Q->BO t σ H Q:=λσ H Q zq=>zq.elim λO zq=>zq.elim λρ zq=>zq.elim λE hF=>
 h σ H _ ⟨O,ρ,E,(gk.bind hF).imp λd hF v H1 s1 d1=>by
  obtain⟨b,e,q⟩:=gk.rO hF;cases d with
  |bl b'=>
   cases e;exact⟨b,gC.mp d1,q H1 s1⟩
  |_=>cases e⟩
noncomputable def tQ(K:KZ)(r:aB->Hp->VK->Prop)(g:List D->aU):Prop:=
 ∀(ds:List D)(d:D)(xs:aB)(O:au)(H:Hp)(Q:VK),bQ H O->g ds=some d->ax K (hid H O) ds xs->(∀v H',aI H H'->bv K (hid H' O) d v->Q v H')->r xs H Q
noncomputable def fL(g:List D->aU)(f:aN):FX:=λρ=>(f ρ).bind λds=>rO (g ds)
noncomputable def fR(g:List D->R D)(f:aN):FX:=λρ=>(f ρ).bind g
theorem yU{r:aB->Hp->VK->Prop}{g:List D->aU}{f:aN}(s:tQ X.K r g):∀σ H Q,tF X (fL g f) σ H Q->GU r (Hj X f) σ H Q:=λσ H Q zq=>zq.elim λO zq=>zq.elim λρ zq=>zq.elim λE hF=>
 ⟨O,ρ,E,(gk.bind hF).imp fun ds hF vs H1 s1 d1=>by
  obtain⟨d,e,q⟩:=gk.rO hF;exact s ds d vs O H1 Q (E.all.same s1) e d1 λv H2 s2 d2=>q v H2 (s1.trans s2) d2⟩
noncomputable def vC(f:aY):aY:=λρ=>(f ρ).bind λb=>.ok (!b)
noncomputable def pp(f g:aY):aY:=λρ=>(f ρ).bind λb=>if b then g ρ else .ok false
noncomputable def zm(f g:aY):aY:=λρ=>(f ρ).bind λb=>if b then .ok true else g ρ
variable{a b c:Mb}{rest:aX}{pos:Pos}{f g:aY}
theorem FW.ft{e:Mb}(h:FW X e f):FT X e f:=PW.pt h
noncomputable def truth:D->Option Bool
 |.non=>some false
 |.bl b=>some b
 |.int i=>some (i !=0)
 |.str x=>if small x.length then some (x.length !=0)else none
 |.tup xs=>some (!xs.isEmpty)
 |.lst xs=>some (!xs.isEmpty)
 |_=>none
noncomputable def ka(f:FX):aY:=λρ=>(f ρ).bind λd=>rO (truth d)
noncomputable def rA(d:D)(k:R D):R D:=match d with
 |.bl true=>k
 |.bl false=>.ok (.bl false)
 |_=>un
noncomputable def EW(d:D)(k:R D):R D:=match d with
 |.bl false=>k
 |.bl true=>.ok (.bl true)
 |_=>un
noncomputable def C8:D->aU
 |.bl b=>some (.bl (!b))
 |_=>none
noncomputable def Es(f g:FX):FX:=λρ=>(f ρ).bind λd=>rA d (g ρ)
noncomputable def GB(f g:FX):FX:=λρ=>(f ρ).bind λd=>EW d (g ρ)
noncomputable def E5(f:FX):FX:=f1 C8 f
variable{fa fb:FX}
noncomputable def HS(t:aY)(f g:FX):FX:=λρ=>(t ρ).bind λc=>if c then f ρ else g ρ
end
end TG
namespace TG
open PySem PySem.Spec L2
variable[aq]
open PySem.SeqAt (EqAt RcAt RcNeAt)
mutual
noncomputable def pyEq:D->D->Bool
 |.non,.non=>true
 |.bl a,.bl b=>a==b
 |.bl a,.int b=>(if a then 1 else 0)==b
 |.int a,.bl b=>a==(if b then 1 else 0)
 |.int a,.int b=>a==b
 |.str a,.str b=>a==b
 |.tup xs,.tup ys=>gU xs ys
 |.lst xs,.lst ys=>gU xs ys
 |.dct _ _,.dct _ _=>true
 |.obj _ _ _,.obj _ _ _=>true
 |.exc _ _ _,.exc _ _ _=>true
 |_,_=>false
noncomputable def gU:List D->List D->Bool
 |[],[]=>true
 |x::xs,y::ys=>pyEq x y&&gU xs ys
 |_,_=>false
end
mutual
theorem dN:∀d:D,pyEq d d=true
 |.non=>by unfold pyEq;rfl
 |.bl b=>by unfold pyEq;simp
 |.int i=>by unfold pyEq;simp
 |.str x=>by unfold pyEq;simp
 |.tup xs=>by unfold pyEq;exact jc xs
 |.lst xs=>by unfold pyEq;exact jc xs
 |.dct _ _=>by unfold pyEq;rfl
 |.obj _ _ _=>by unfold pyEq;rfl
 |.exc _ _ _=>by unfold pyEq;rfl
theorem jc:∀ds:List D,gU ds ds=true
 |[]=>by unfold gU;rfl
 |d::ds=>by unfold gU;rw[dN d,jc ds];rfl
end
noncomputable def sk(xs ys:List D)(j:Nat):Bool:=match xs[j]?,ys[j]? with
 |some a,some b=>pyEq a b
 |_,_=>false
theorem dj:∀xs ys:List D,((List.range (min xs.length ys.length)).all (sk xs ys)&&xs.length==ys.length)=gU xs ys
 |[],[]=>by unfold gU;rfl
 |[],_::_=>by unfold gU;simp
 |_::_,[]=>by unfold gU;simp
 |x::xs,y::ys=>by
  have ih:=dj xs ys
  conv=>rhs;unfold gU
  rw[<-ih];have e:min (x::xs).length (y::ys).length=min xs.length ys.length+1:=by simp only[Jl];omega
  rw[e,List.range_succ_eq_map,List.all_cons,List.all_map];have e2:((x::xs).length==(y::ys).length)=(xs.length==ys.length):=by simp
  rw[e2,Bool.and_assoc];have e3:(List.range (min xs.length ys.length)).all (sk (x::xs) (y::ys)∘Nat.succ)=(List.range (min xs.length ys.length)).all (sk xs ys):=by
   congr 1
  rw[e3];rfl
mutual
noncomputable def pl:D->Bool
 |.tup xs=>pL xs
 |.lst xs=>pL xs
 |.dct _ _=>false
 |.obj _ _ _=>false
 |.exc _ _ _=>false
 |_=>true
noncomputable def pL:List D->Bool
 |[]=>true
 |x::xs=>pl x&&pL xs
end
theorem cT{ks vs:List D}(h:pl (.dct ks vs)=true):False:=by unfold pl at h;cases h
theorem cV{c:Str}{fs:ay}{vs:List D}(h:pl (.obj c fs vs)=true):False:=by unfold pl at h;cases h
theorem cZ{c:Str}{fs:ay}{vs:List D}(h:pl (.exc c fs vs)=true):False:=by unfold pl at h;cases h
theorem jw:∀{xs:List D},pL xs=true->∀x∈xs,pl x=true
 |[],_,_,h=>nomatch h
 |x::xs,h,y,hy=>by
  unfold pL at h;rw[Jc]at h;rcases List.mem_cons.mp hy with z|z
  ·rw[z];exact h.1
  ·exact jw h.2 y z
theorem o6:∀{xs:List D},(∀x∈xs,pl x=true)->pL xs=true
 |[],_=>by unfold pL;rfl
 |x::xs,h=>by
  unfold pL;rw[Jc];exact⟨h x IB,o6 λy hy=>h y (IC _ hy)⟩
theorem cu{xs:List D}:pl (.tup xs)=pL xs:=by rw[pl]
theorem b8{xs:List D}:pl (.lst xs)=pL xs:=by rw[pl]
noncomputable def bz:Nat->D->Bool
 |n+1,.tup xs=>xs.all (bz n)
 |n+1,.lst xs=>xs.all (bz n)
 |0,.tup _=>false
 |0,.lst _=>false
 |_,.dct _ _=>false
 |_,.obj _ _ _=>false
 |_,.exc _ _ _=>false
 |_,_=>true
section
variable{X:Cx}{pins:aG}{σ:St}{H:Hp}{s:Mf}
theorem Inv.not_both(I:`h){a:Ma}{xs ys:aB}(h:mK X.K H a xs)(h':jG X.K H a ys):False:=by
 obtain⟨its,_,ht,_⟩:=I.tuple h;obtain⟨its2,_,hl,_⟩:=I.list h';exact absurd rfl (SeqAt.ne_of_list_tuple hl.isList (show s.heap.IsTuple a its.toArray from ht))
mutual
theorem Inv.den_inj(I:`h):∀{a b:D}{v:V},pl a=true->pl b=true->bv X.K H a v->bv X.K H b v->a=b
 |.non,b,v,pa,pb,h,h'=>by
  rw[fP]at h;subst h;cases b with
  |non=>rfl
  |bl _=>rw[gC]at h';cases h'
  |int _=>rw[dm]at h';cases h'
  |str _=>rw[cM]at h';cases h'
  |tup _=>rw[bh]at h';obtain⟨_,_,e,_⟩:=h';cases e
  |lst _=>rw[bn]at h';obtain⟨_,_,e,_⟩:=h';cases e
  |dct _ _=>exact(cT pb).elim
  |obj _ _ _=>exact(cV pb).elim
  |exc _ _ _=>exact(cZ pb).elim
 |.bl x,b,v,pa,pb,h,h'=>by
  rw[gC]at h;subst h;cases b with
  |non=>rw[fP]at h';cases h'
  |bl _=>rw[gC]at h';cases h';rfl
  |int _=>rw[dm]at h';cases h'
  |str _=>rw[cM]at h';cases h'
  |tup _=>rw[bh]at h';obtain⟨_,_,e,_⟩:=h';cases e
  |lst _=>rw[bn]at h';obtain⟨_,_,e,_⟩:=h';cases e
  |dct _ _=>exact(cT pb).elim
  |obj _ _ _=>exact(cV pb).elim
  |exc _ _ _=>exact(cZ pb).elim
 |.int x,b,v,pa,pb,h,h'=>by
  rw[dm]at h;subst h;cases b with
  |non=>rw[fP]at h';cases h'
  |bl _=>rw[gC]at h';cases h'
  |int _=>rw[dm]at h';cases h';rfl
  |str _=>rw[cM]at h';cases h'
  |tup _=>rw[bh]at h';obtain⟨_,_,e,_⟩:=h';cases e
  |lst _=>rw[bn]at h';obtain⟨_,_,e,_⟩:=h';cases e
  |dct _ _=>exact(cT pb).elim
  |obj _ _ _=>exact(cV pb).elim
  |exc _ _ _=>exact(cZ pb).elim
 |.str x,b,v,pa,pb,h,h'=>by
  rw[cM]at h;subst h;cases b with
  |non=>rw[fP]at h';cases h'
  |bl _=>rw[gC]at h';cases h'
  |int _=>rw[dm]at h';cases h'
  |str _=>rw[cM]at h';cases h';rfl
  |tup _=>rw[bh]at h';obtain⟨_,_,e,_⟩:=h';cases e
  |lst _=>rw[bn]at h';obtain⟨_,_,e,_⟩:=h';cases e
  |dct _ _=>exact(cT pb).elim
  |obj _ _ _=>exact(cV pb).elim
  |exc _ _ _=>exact(cZ pb).elim
 |.tup xs,b,v,pa,pb,h,h'=>by
  rw[bh]at h;obtain⟨a,vs,e,h1,h2⟩:=h;subst e;cases b with
  |non=>rw[fP]at h';cases h'
  |bl _=>rw[gC]at h';cases h'
  |int _=>rw[dm]at h';cases h'
  |str _=>rw[cM]at h';cases h'
  |tup ys=>
   rw[bh]at h';obtain⟨a',vs',e,h1',h2'⟩:=h';cases e;have ev:=I.tuple_inj (mK.of h1) (mK.of h1');subst ev;rw[Inv.denL_inj I (by first|rw[<-cu];exact pa|rw[<-b8];exact pa) (by first|rw[<-cu];exact pb|rw[<-b8];exact pb) h2 h2']
  |lst _=>rw[bn]at h';obtain⟨_,_,e,h1',_⟩:=h';cases e;exact(Inv.not_both I (mK.of h1) h1').elim
  |dct _ _=>exact(cT pb).elim
  |obj _ _ _=>exact(cV pb).elim
  |exc _ _ _=>exact(cZ pb).elim
 |.lst xs,b,v,pa,pb,h,h'=>by
  rw[bn]at h;obtain⟨a,vs,e,h1,h2⟩:=h;subst e;cases b with
  |non=>rw[fP]at h';cases h'
  |bl _=>rw[gC]at h';cases h'
  |int _=>rw[dm]at h';cases h'
  |str _=>rw[cM]at h';cases h'
  |lst ys=>
   rw[bn]at h';obtain⟨a',vs',e,h1',h2'⟩:=h';cases e;have ev:=I.list_inj h1 h1';subst ev;rw[Inv.denL_inj I (by first|rw[<-cu];exact pa|rw[<-b8];exact pa) (by first|rw[<-cu];exact pb|rw[<-b8];exact pb) h2 h2']
  |tup _=>rw[bh]at h';obtain⟨_,_,e,h1',_⟩:=h';cases e;exact(Inv.not_both I (mK.of h1') h1).elim
  |dct _ _=>exact(cT pb).elim
  |obj _ _ _=>exact(cV pb).elim
  |exc _ _ _=>exact(cZ pb).elim
 |.dct _ _,_,_,pa,_,_,_=>(cT pa).elim
 |.obj _ _ _,_,_,pa,_,_,_=>(cV pa).elim
 |.exc _ _ _,_,_,pa,_,_,_=>(cZ pa).elim
theorem Inv.denL_inj(I:`h):∀{as bs:List D}{vs:aB},pL as=true->pL bs=true->ax X.K H as vs->ax X.K H bs vs->as=bs
 |[],bs,vs,pa,pb,h,h'=>by
  rw[bB]at h;subst h;cases bs with
  |nil=>rfl
  |cons b bs=>rw[aK]at h';obtain⟨_,_,e,_⟩:=h';cases e
 |a::as,bs,vs,pa,pb,h,h'=>by
  rw[aK]at h;obtain⟨v,r,e,h1,h2⟩:=h;subst e;cases bs with
  |nil=>rw[bB]at h';cases h'
  |cons b bs=>
   rw[aK]at h';obtain⟨v',r',e,h1',h2'⟩:=h';cases e;unfold pL at pa pb;rw[Jc]at pa pb;rw[Inv.den_inj I pa.1 pb.1 h1 h1',Inv.denL_inj I pa.2 pb.2 h2 h2']
end
noncomputable def iX:D->Option V
 |.non=>some .non
 |.bl b=>some (.bl b)
 |.int i=>some (.int i)
 |.str x=>some (.str x)
 |_=>none
theorem kj{K:KZ}{d:D}{v x:V}(h:iX d=some x)(hd:bv K H d v):v=x/\wu x=true:=by
 cases d with
 |non=>cases h;exact⟨fP.mp hd,rfl⟩
 |bl b=>cases h;exact⟨gC.mp hd,rfl⟩
 |int i=>cases h;exact⟨dm.mp hd,rfl⟩
 |str y=>cases h;exact⟨cM.mp hd,rfl⟩
 |_=>cases h
theorem Bo{a b:D}{x y:V}(ha:iX a=some x)(hb:iX b=some y):GW x y=pyEq a b:=by
 cases a<;>cases ha<;>cases b<;>cases hb<;>(unfold pyEq GW;rfl)
theorem pN{a:D}{x:V}(n:Nat)(h:iX a=some x):bz n a=true:=by
 cases a with
 |tup _=>cases h
 |lst _=>cases h
 |dct _ _=>cases h
 |obj _ _ _=>cases h
 |exc _ _ _=>cases h
 |_=>cases n<;>rfl
theorem qa{a:D}(h:iX a=none):bz 0 a=false:=by
 cases a with
 |tup _=>rfl
 |lst _=>rfl
 |dct _ _=>rfl
 |obj _ _ _=>rfl
 |exc _ _ _=>rfl
 |_=>cases h
theorem in1_units(A:Mo):A.in1.units=A.units+1:=rfl
theorem lu{vs:aB}{us:aF}(r:Vals vs us){j:Nat}(h:j<us.toArray.size):∃x,vs[j]?=some x/\RelV x us.toArray[j]:=by
 have hj:j<us.length:=by simpa using h
 have hl:=r.length;have hv:j<vs.length:=by omega
 obtain⟨u,e,ru⟩:=r.get (i:=j) (x:=vs[j]) (by simp[hv]);refine⟨vs[j],by simp[hv],?_⟩;have e2:us.toArray[j]=u:=by
  rw[Jz hj]at e
  simpa using Option.some.inj e
 rw[e2];exact ru
theorem k9{K:KZ}{ds:List D}{vs:aB}(h:ax K H ds vs){j:Nat}{x:V}(e:vs[j]?=some x):∃d,ds[j]?=some d/\bv K H d x:=by
 have hj:j<vs.length:=(List.getElem?_eq_some_iff.mp e).1;have hl:=h.length;have hd:j<ds.length:=by omega
 obtain⟨v,e1,e2⟩:=h.get (i:=j) (d:=ds[j]) (by simp[hd]);rw[e]at e1;cases e1;exact⟨ds[j],by simp[hd],e2⟩
theorem Dz(I:`h):∀(n:Nat)(a b:D)(x y:V)(u v:L8)(A:Mo),pl a=true->pl b=true->(bz n a=true\/bz n b=true)->bv X.K H a x->bv X.K H b y->RelV x u->RelV y v->A.units+n<MF->EqAt A s u v (pyEq a b):=by
 intro n
 induction n with
 |zero=>
  intro a b x y u v A pa pb hd ha hb ru rv hA;have hu:A.units<MF:=hA;cases ha':iX a with
  |some x'=>
   obtain⟨e,f⟩:=kj ha' ha;subst e;cases hb':iX b with
   |some y'=>
    obtain⟨e,f'⟩:=kj hb' hb;subst e;rw[<-Bo ha' hb'];exact Ct ru rv f f'
   |none=>
    cases b with
    |tup ys=>
     rw[bh]at hb;obtain⟨p,vs,e,h1,h2⟩:=hb;subst e;cases rv;obtain⟨its,_,ht,_⟩:=I.tuple (mK.of h1);have ht':s.heap.IsTuple p its.toArray:=ht;cases a with
     |non=>cases ha';cases ru;unfold pyEq;exact .none_tuple ht' hu
     |bl z=>cases ha';cases ru;unfold pyEq;exact .bool_tuple z ht' hu
     |int z=>cases ha';obtain⟨t,rfl⟩:=ru;unfold pyEq;exact .int_tuple z t ht' hu
     |str z=>cases ha';obtain⟨t,rfl⟩:=ru;unfold pyEq;exact .str_tuple z t ht' hu
     |_=>cases ha'
    |lst ys=>
     rw[bn]at hb;obtain⟨p,vs,e,h1,h2⟩:=hb;subst e;cases rv;obtain⟨its,_,ht,_⟩:=I.list h1;have ht':s.heap.IsList p its.toArray:=ht.isList;cases a with
     |non=>cases ha';cases ru;unfold pyEq;exact .none_list ht' hu
     |bl z=>cases ha';cases ru;unfold pyEq;exact .bool_list z ht' hu
     |int z=>cases ha';obtain⟨t,rfl⟩:=ru;unfold pyEq;exact .int_list z t ht' hu
     |str z=>cases ha';obtain⟨t,rfl⟩:=ru;unfold pyEq;exact .str_list z t ht' hu
     |_=>cases ha'
    |dct _ _=>exact(cT pb).elim
    |obj _ _ _=>exact(cV pb).elim
    |exc _ _ _=>exact(cZ pb).elim
    |_=>cases hb'
  |none=>
   have hdb:bz 0 b=true:=by
    rcases hd with hd|hd
    ·rw[qa ha']at hd;cases hd
    ·exact hd
   cases hb':iX b with
   |none=>rw[qa hb']at hdb;cases hdb
   |some y'=>
    obtain⟨e,f'⟩:=kj hb' hb;subst e;cases a with
    |tup xs=>
     rw[bh]at ha;obtain⟨p,vs,e,h1,h2⟩:=ha;subst e;cases ru;obtain⟨its,_,ht,_⟩:=I.tuple (mK.of h1);have ht':s.heap.IsTuple p its.toArray:=ht;cases b with
     |non=>cases hb';cases rv;unfold pyEq;exact .tuple_none ht' hu
     |bl z=>cases hb';cases rv;unfold pyEq;exact .tuple_bool z ht' hu
     |int z=>cases hb';obtain⟨t,rfl⟩:=rv;unfold pyEq;exact .tuple_int z t ht' hu
     |str z=>cases hb';obtain⟨t,rfl⟩:=rv;unfold pyEq;exact .tuple_str z t ht' hu
     |_=>cases hb'
    |lst xs=>
     rw[bn]at ha;obtain⟨p,vs,e,h1,h2⟩:=ha;subst e;cases ru;obtain⟨its,_,ht,_⟩:=I.list h1;have ht':s.heap.IsList p its.toArray:=ht.isList;cases b with
     |non=>cases hb';cases rv;unfold pyEq;exact .list_none ht' hu
     |bl z=>cases hb';cases rv;unfold pyEq;exact .list_bool z ht' hu
     |int z=>cases hb';obtain⟨t,rfl⟩:=rv;unfold pyEq;exact .list_int z t ht' hu
     |str z=>cases hb';obtain⟨t,rfl⟩:=rv;unfold pyEq;exact .list_str z t ht' hu
     |_=>cases hb'
    |dct _ _=>exact(cT pa).elim
    |obj _ _ _=>exact(cV pa).elim
    |exc _ _ _=>exact(cZ pa).elim
    |_=>cases ha'
 |succ n ih=>
  intro a b x y u v A pa pb hd ha hb ru rv hA;have hu:A.units<MF:=by omega
  have flatWay:(∀xs ys,¬(a=.tup xs/\b=.tup ys))->(∀xs ys,¬(a=.lst xs/\b=.lst ys))->EqAt A s u v (pyEq a b):=by
   intro n1 n2;cases ha':iX a with
   |some x'=>exact ih a b x y u v A pa pb (.inl (pN n ha')) ha hb ru rv `o
   |none=>
    cases hb':iX b with
    |some y'=>exact ih a b x y u v A pa pb (.inr (pN n hb')) ha hb ru rv `o
    |none=>
     cases a with
     |tup xs=>
      cases b with
      |tup ys=>exact absurd ⟨rfl,rfl⟩ (n1 xs ys)
      |lst ys=>
       rw[bh]at ha;obtain⟨p,vs,e,h1,h2⟩:=ha;subst e;rw[bn]at hb;obtain⟨p',vs',e,h1',h2'⟩:=hb;subst e;cases ru;cases rv;obtain⟨its,_,ht,_⟩:=I.tuple (mK.of h1);obtain⟨its2,_,ht2,_⟩:=I.list h1';unfold pyEq;exact .tuple_list (show s.heap.IsTuple p its.toArray from ht) ht2.isList hu
      |dct _ _=>exact(cT pb).elim
      |obj _ _ _=>exact(cV pb).elim
      |exc _ _ _=>exact(cZ pb).elim
      |_=>cases hb'
     |lst xs=>
      cases b with
      |lst ys=>exact absurd ⟨rfl,rfl⟩ (n2 xs ys)
      |tup ys=>
       rw[bn]at ha;obtain⟨p,vs,e,h1,h2⟩:=ha;subst e;rw[bh]at hb;obtain⟨p',vs',e,h1',h2'⟩:=hb;subst e;cases ru;cases rv;obtain⟨its,_,ht,_⟩:=I.list h1;obtain⟨its2,_,ht2,_⟩:=I.tuple (mK.of h1');unfold pyEq;exact .list_tuple ht.isList (show s.heap.IsTuple p' its2.toArray from ht2) hu
      |dct _ _=>exact(cT pb).elim
      |obj _ _ _=>exact(cV pb).elim
      |exc _ _ _=>exact(cZ pb).elim
      |_=>cases hb'
     |dct _ _=>exact(cT pa).elim
     |obj _ _ _=>exact(cV pa).elim
     |exc _ _ _=>exact(cZ pa).elim
     |_=>cases ha'
  have items:∀(xs ys:List D)(vs vs':aB)(its its':aF),pL xs=true->pL ys=true->(bz (n+1) (.tup xs)=true\/bz (n+1) (.tup ys)=true)->ax X.K H xs vs->ax X.K H ys vs'->Vals vs its->Vals vs' its'->
    ∀j (h1:j<its.toArray.size) (h2:j<its'.toArray.size),EqAt A.in1 s its.toArray[j] its'.toArray[j] (sk xs ys j):=by
   intro xs ys vs vs' its its' px py hdd hx hy rx ry j h1 h2;obtain⟨w1,e1,r1⟩:=lu rx h1;obtain⟨w2,e2,r2⟩:=lu ry h2;obtain⟨d1,f1,g1⟩:=k9 hx e1;obtain⟨d2,f2,g2⟩:=k9 hy e2;have e3:sk xs ys j=pyEq d1 d2:=(by unfold sk;rw[f1,f2]);rw[e3];refine ih d1 d2 w1 w2 _ _ A.in1 (jw px _ (IX f1)) (jw py _ (IX f2)) ?_ g1 g2 r1 r2 (by rw[in1_units];omega);rcases hdd with hdd|hdd
   ·exact .inl (List.all_eq_true.mp hdd d1 (IX f1))
   ·exact .inr (List.all_eq_true.mp hdd d2 (IX f2))
  by_cases hT:∃xs ys,a=.tup xs/\b=.tup ys
  ·obtain⟨xs,ys,rfl,rfl⟩:=hT;have da:=ha;have db:=hb;rw[bh]at ha hb;obtain⟨p,vs,e,h1,h2⟩:=ha;subst e;obtain⟨p',vs',e,h1',h2'⟩:=hb;subst e;cases ru;cases rv;by_cases hp:p=p'
   ·subst hp;have e:=Inv.den_inj I pa pb da db;rw[e,dN];exact EqAt.same _
   ·obtain⟨its,rv1,ht,_⟩:=I.tuple (mK.of h1);obtain⟨its2,rv2,ht2,_⟩:=I.tuple (mK.of h1');refine EqAt.of_refs hp ?_;have q:=RcAt.tuples (e:=sk xs ys) (show s.heap.IsTuple p its.toArray from ht) (show s.heap.IsTuple p' its2.toArray from ht2) hu (items xs ys vs vs' its its2 (by first|rw[<-cu];exact pa|rw[<-b8];exact pa) (by first|rw[<-cu];exact pb|rw[<-b8];exact pb) hd h2 h2' rv1 rv2);have z1:its.toArray.size=xs.length:=(by rw[IL,<-rv1.length,<-h2.length]);have z2:its2.toArray.size=ys.length:=(by rw[IL,<-rv2.length,<-h2'.length]);rw[z1,z2,dj]at q;unfold pyEq;exact q
  ·by_cases hL:∃xs ys,a=.lst xs/\b=.lst ys
   ·obtain⟨xs,ys,rfl,rfl⟩:=hL;have da:=ha;have db:=hb;rw[bn]at ha hb;obtain⟨p,vs,e,h1,h2⟩:=ha;subst e;obtain⟨p',vs',e,h1',h2'⟩:=hb;subst e;cases ru;cases rv;by_cases hp:p=p'
    ·subst hp;have e:=Inv.den_inj I pa pb da db;rw[e,dN];exact EqAt.same _
    ·obtain⟨its,rv1,ht,_⟩:=I.list h1;obtain⟨its2,rv2,ht2,_⟩:=I.list h1';refine EqAt.of_refs hp ?_;have z1:its.toArray.size=xs.length:=(by rw[IL,<-rv1.length,<-h2.length]);have z2:its2.toArray.size=ys.length:=(by rw[IL,<-rv2.length,<-h2'.length]);have er:=dj xs ys;by_cases hz:its.toArray.size=its2.toArray.size
     ·have q:=RcAt.lists (e:=sk xs ys) ht.isList ht2.isList hz hu (items xs ys vs vs' its its2 (by first|rw[<-cu];exact pa|rw[<-b8];exact pa) (by first|rw[<-cu];exact pb|rw[<-b8];exact pb) hd h2 h2' rv1 rv2);rw[z1]at q;have hz':xs.length=ys.length:=(by omega);rw[<-hz',JA]at er;simp only[beq_self_eq_true,JB]at er;rw[er]at q;unfold pyEq;exact q
     ·have hne:(its.toArray.size !=its2.toArray.size)=true:=(by simpa using hz);have q:=RcAt.lists_lengths (A:=A) ht.isList ht2.isList hne hu;have hz':(xs.length==ys.length)=false:=by
       rw[z1,z2]at hz
       simpa using hz
      rw[hz',JC]at er;unfold pyEq;rw[<-er];exact q
   ·exact flatWay (λxs ys z=>hT ⟨xs,ys,z⟩) λxs ys z=>hL ⟨xs,ys,z⟩
end
end TG
namespace TG
open PySem PySem.Spec L2
variable[aq]
open PySem.SeqAt (EqAt RcAt RcNeAt)
section
variable{X:Cx}{pins:aG}{σ:St}{H:Hp}{s:Mf}
theorem lj(I:`h){n:Nat}{xs ys:List D}{vs vs':aB}{its its':aF}{A:Mo}(px:pL xs=true)(py:pL ys=true)(hdd:bz (n+1) (.tup xs)=true\/bz (n+1) (.tup ys)=true)(hx:ax X.K H xs vs)(hy:ax X.K H ys vs')(rx:Vals vs its)(ry:Vals vs' its')(hA:A.units+n<MF):
  ∀j (h1:j<its.toArray.size) (h2:j<its'.toArray.size),EqAt A s its.toArray[j] its'.toArray[j] (sk xs ys j):=by
 intro j h1 h2;obtain⟨w1,e1,r1⟩:=lu rx h1;obtain⟨w2,e2,r2⟩:=lu ry h2;obtain⟨d1,f1,g1⟩:=k9 hx e1;obtain⟨d2,f2,g2⟩:=k9 hy e2;have e3:sk xs ys j=pyEq d1 d2:=by unfold sk;rw[f1,f2]
 rw[e3];refine Dz I n d1 d2 w1 w2 _ _ A (jw px _ (IX f1)) (jw py _ (IX f2)) ?_ g1 g2 r1 r2 hA;rcases hdd with hdd|hdd
 ·exact .inl (List.all_eq_true.mp hdd d1 (IX f1))
 ·exact .inr (List.all_eq_true.mp hdd d2 (IX f2))
inductive Way(I:`h):D->L8->Prop where
 |non:Way I .non .none
 |bl (b:Bool):Way I (.bl b) (.bool b)
 |int (i:Int) (t:Tok):Way I (.int i) (.int i t)
 |str (x:Str) (t:Tok):Way I (.str x) (.str x t)
 |tup {xs:List D} {p:Ma} {vs:aB} {its:aF} (h:ax X.K H xs vs) (r:Vals vs its) (t:s.heap.IsTuple p its.toArray):Way I (.tup xs) (.ref p)
 |lst {xs:List D} {p:Ma} {vs:aB} {its:aF} (h:ax X.K H xs vs) (r:Vals vs its) (t:s.heap.IsList p its.toArray):Way I (.lst xs) (.ref p)
noncomputable def top:D->Bool
 |.dct _ _=>false
 |.obj _ _ _=>false
 |.exc _ _ _=>false
 |_=>true
theorem cN{d:D}(h:pl d=true):top d=true:=by
 cases d with
 |dct _ _=>exact(cT h).elim
 |obj _ _ _=>exact(cV h).elim
 |exc _ _ _=>exact(cZ h).elim
 |_=>rfl
theorem cH(I:`h){d:D}{v:V}{u:L8}(pd:top d=true)(h:bv X.K H d v)(r:RelV v u):Way I d u:=by
 cases d with
 |non=>rw[fP]at h;subst h;cases r;exact .non
 |bl b=>rw[gC]at h;subst h;cases r;exact .bl b
 |int i=>rw[dm]at h;subst h;obtain⟨t,rfl⟩:=r;exact .int i t
 |str x=>rw[cM]at h;subst h;obtain⟨t,rfl⟩:=r;exact .str x t
 |tup xs=>
  rw[bh]at h;obtain⟨p,vs,e,h1,h2⟩:=h;subst e;cases r;obtain⟨its,rv,ht,_⟩:=I.tuple (mK.of h1);exact .tup h2 rv ht
 |lst xs=>
  rw[bn]at h;obtain⟨p,vs,e,h1,h2⟩:=h;subst e;cases r;obtain⟨its,rv,ht,_⟩:=I.list h1;exact .lst h2 rv ht.isList
 |dct _ _=>cases pd
 |obj _ _ _=>cases pd
 |exc _ _ _=>cases pd
theorem C2(I:`h){n:Nat}{a b:D}{x y:V}{u v:L8}{A:Mo}(pa:pl a=true)(pb:pl b=true)(hd:bz (n+1) a=true\/bz (n+1) b=true)(ha:bv X.K H a x)(hb:bv X.K H b y)(ru:RelV x u)(rv:RelV y v)(hA:A.units+n+1<MF):RcAt A s u v (pyEq a b):=by
 have hu:A.units<MF:=by omega
 cases cH I (cN pa) ha ru with
 |non=>cases cH I (cN pb) hb rv with
  |non=>unfold pyEq;exact .none_none
  |bl b=>unfold pyEq;exact .none_bool b
  |int i t=>unfold pyEq;exact .none_int i t
  |str x t=>unfold pyEq;exact .none_str x t
  |tup h r t=>unfold pyEq;exact .none_tuple t hu
  |lst h r t=>unfold pyEq;exact .none_list t hu
 |bl z=>cases cH I (cN pb) hb rv with
  |non=>unfold pyEq;exact .bool_none z
  |bl b=>unfold pyEq;exact .bool_bool z b
  |int i t=>unfold pyEq;exact .bool_int z i t
  |str x t=>unfold pyEq;exact .bool_str z x t
  |tup h r t=>unfold pyEq;exact .bool_tuple z t hu
  |lst h r t=>unfold pyEq;exact .bool_list z t hu
 |int z tz=>cases cH I (cN pb) hb rv with
  |non=>unfold pyEq;exact .int_none z tz
  |bl b=>unfold pyEq;exact .int_bool z tz b
  |int i t=>unfold pyEq;exact .int_int z tz i t
  |str x t=>unfold pyEq;exact .int_str z tz x t
  |tup h r t=>unfold pyEq;exact .int_tuple z tz t hu
  |lst h r t=>unfold pyEq;exact .int_list z tz t hu
 |str z tz=>cases cH I (cN pb) hb rv with
  |non=>unfold pyEq;exact .str_none z tz
  |bl b=>unfold pyEq;exact .str_bool z tz b
  |int i t=>unfold pyEq;exact .str_int z tz i t
  |str x t=>unfold pyEq;exact .str_str z tz x t
  |tup h r t=>unfold pyEq;exact .str_tuple z tz t hu
  |lst h r t=>unfold pyEq;exact .str_list z tz t hu
 |@tup xs p vs its h1 r1 t1=>cases cH I (cN pb) hb rv with
  |non=>unfold pyEq;exact .tuple_none t1 hu
  |bl b=>unfold pyEq;exact .tuple_bool b t1 hu
  |int i t=>unfold pyEq;exact .tuple_int i t t1 hu
  |str x t=>unfold pyEq;exact .tuple_str x t t1 hu
  |@tup ys p' vs' its' h2 r2 t2=>
   have q:=RcAt.tuples (e:=sk xs ys) t1 t2 hu (lj (A:=A.in1) I (by first|rw[<-cu];exact pa|rw[<-b8];exact pa) (by first|rw[<-cu];exact pb|rw[<-b8];exact pb) hd h1 h2 r1 r2 (by rw[in1_units];omega));have z1:its.toArray.size=xs.length:=(by rw[IL,<-r1.length,<-h1.length]);have z2:its'.toArray.size=ys.length:=(by rw[IL,<-r2.length,<-h2.length]);rw[z1,z2,dj]at q;unfold pyEq;exact q
  |lst h r t=>unfold pyEq;exact .tuple_list t1 t hu
 |@lst xs p vs its h1 r1 t1=>cases cH I (cN pb) hb rv with
  |non=>unfold pyEq;exact .list_none t1 hu
  |bl b=>unfold pyEq;exact .list_bool b t1 hu
  |int i t=>unfold pyEq;exact .list_int i t t1 hu
  |str x t=>unfold pyEq;exact .list_str x t t1 hu
  |tup h r t=>unfold pyEq;exact .list_tuple t1 t hu
  |@lst ys p' vs' its' h2 r2 t2=>
   have z1:its.toArray.size=xs.length:=(by rw[IL,<-r1.length,<-h1.length]);have z2:its'.toArray.size=ys.length:=(by rw[IL,<-r2.length,<-h2.length]);have er:=dj xs ys;by_cases hz:its.toArray.size=its'.toArray.size
   ·have q:=RcAt.lists (e:=sk xs ys) t1 t2 hz hu (lj (A:=A.in1) I (by first|rw[<-cu];exact pa|rw[<-b8];exact pa) (by first|rw[<-cu];exact pb|rw[<-b8];exact pb) hd h1 h2 r1 r2 (by rw[in1_units];omega));rw[z1]at q;have hz':xs.length=ys.length:=(by omega);rw[<-hz',JA]at er;simp only[beq_self_eq_true,JB]at er;rw[er]at q;unfold pyEq;exact q
   ·have q:=RcAt.lists_lengths (A:=A) t1 t2 (by simpa using hz) hu;have hz':(xs.length==ys.length)=false:=by
     rw[z1,z2]at hz
     simpa using hz
    rw[hz',JC]at er;unfold pyEq;rw[<-er];exact q
theorem xj(I:`h){n:Nat}{a b:D}{x y:V}{u v:L8}{A:Mo}(pa:pl a=true)(pb:pl b=true)(hd:bz (n+1) a=true\/bz (n+1) b=true)(ha:bv X.K H a x)(hb:bv X.K H b y)(ru:RelV x u)(rv:RelV y v)(hA:A.units+n+1<MF):RcNeAt A s u v (!pyEq a b):=by
 have hu:A.units<MF:=by omega
 cases cH I (cN pa) ha ru with
 |non=>cases cH I (cN pb) hb rv with
  |non=>unfold pyEq;exact .none_none
  |bl b=>unfold pyEq;exact .none_bool b
  |int i t=>unfold pyEq;exact .none_int i t
  |str x t=>unfold pyEq;exact .none_str x t
  |tup h r t=>unfold pyEq;exact .none_tuple t hu
  |lst h r t=>unfold pyEq;exact .none_list t hu
 |bl z=>cases cH I (cN pb) hb rv with
  |non=>unfold pyEq;exact .bool_none z
  |bl b=>unfold pyEq;exact .bool_bool z b
  |int i t=>unfold pyEq;exact .bool_int z i t
  |str x t=>unfold pyEq;exact .bool_str z x t
  |tup h r t=>unfold pyEq;exact .bool_tuple z t hu
  |lst h r t=>unfold pyEq;exact .bool_list z t hu
 |int z tz=>cases cH I (cN pb) hb rv with
  |non=>unfold pyEq;exact .int_none z tz
  |bl b=>unfold pyEq;exact .int_bool z tz b
  |int i t=>unfold pyEq;exact .int_int z tz i t
  |str x t=>unfold pyEq;exact .int_str z tz x t
  |tup h r t=>unfold pyEq;exact .int_tuple z tz t hu
  |lst h r t=>unfold pyEq;exact .int_list z tz t hu
 |str z tz=>cases cH I (cN pb) hb rv with
  |non=>unfold pyEq;exact .str_none z tz
  |bl b=>unfold pyEq;exact .str_bool z tz b
  |int i t=>unfold pyEq;exact .str_int z tz i t
  |str x t=>unfold pyEq;exact .str_str z tz x t
  |tup h r t=>unfold pyEq;exact .str_tuple z tz t hu
  |lst h r t=>unfold pyEq;exact .str_list z tz t hu
 |@tup xs p vs its h1 r1 t1=>cases cH I (cN pb) hb rv with
  |non=>unfold pyEq;exact .tuple_none t1 hu
  |bl b=>unfold pyEq;exact .tuple_bool b t1 hu
  |int i t=>unfold pyEq;exact .tuple_int i t t1 hu
  |str x t=>unfold pyEq;exact .tuple_str x t t1 hu
  |@tup ys p' vs' its' h2 r2 t2=>
   have q:=RcNeAt.tuples (e:=sk xs ys) t1 t2 hu (lj (A:=A.in1) I (by first|rw[<-cu];exact pa|rw[<-b8];exact pa) (by first|rw[<-cu];exact pb|rw[<-b8];exact pb) hd h1 h2 r1 r2 (by rw[in1_units];omega));have z1:its.toArray.size=xs.length:=(by rw[IL,<-r1.length,<-h1.length]);have z2:its'.toArray.size=ys.length:=(by rw[IL,<-r2.length,<-h2.length]);rw[z1,z2,dj]at q;unfold pyEq;exact q
  |lst h r t=>unfold pyEq;exact .tuple_list t1 t hu
 |@lst xs p vs its h1 r1 t1=>cases cH I (cN pb) hb rv with
  |non=>unfold pyEq;exact .list_none t1 hu
  |bl b=>unfold pyEq;exact .list_bool b t1 hu
  |int i t=>unfold pyEq;exact .list_int i t t1 hu
  |str x t=>unfold pyEq;exact .list_str x t t1 hu
  |tup h r t=>unfold pyEq;exact .list_tuple t1 t hu
  |@lst ys p' vs' its' h2 r2 t2=>
   have z1:its.toArray.size=xs.length:=(by rw[IL,<-r1.length,<-h1.length]);have z2:its'.toArray.size=ys.length:=(by rw[IL,<-r2.length,<-h2.length]);have er:=dj xs ys;by_cases hz:its.toArray.size=its'.toArray.size
   ·have q:=RcNeAt.lists (e:=sk xs ys) t1 t2 hz hu (lj (A:=A.in1) I (by first|rw[<-cu];exact pa|rw[<-b8];exact pa) (by first|rw[<-cu];exact pb|rw[<-b8];exact pb) hd h1 h2 r1 r2 (by rw[in1_units];omega));rw[z1]at q;have hz':xs.length=ys.length:=(by omega);rw[<-hz',JA]at er;simp only[beq_self_eq_true,JB]at er;rw[er]at q;unfold pyEq;exact q
   ·have q:=RcNeAt.lists_lengths (A:=A) t1 t2 (by simpa using hz) hu;have hz':(xs.length==ys.length)=false:=by
     rw[z1,z2]at hz
     simpa using hz
    rw[hz',JC]at er;unfold pyEq;rw[<-er];exact q
end
section
variable{X:Cx}
noncomputable def rD(K:KZ)(g:D->D->aU):R2:=λx y H Q=>∃O a b d,bQ H O/\bv K (hid H O) a x/\bv K (hid H O) b y/\g a b=some d/\∀v H',aI H H'->bv K (hid H' O) d v->Q v H'
theorem bK{K:KZ}{g:D->D->aU}:c6 K (rD K g) g:=λa b d x y O H Q hO hg ha hb q=>⟨O,a,b,d,hO,ha,hb,hg,q⟩
theorem pZ{f : L8 -> L8 -> Sem L8}{g : D -> D -> aU}(h : ∀ (pins : aG) (s : Mf) (σ : St) (H : Hp) (a b d : D) (x y : V) (u v : L8), Inv X pins σ H s -> bv X.K H a x -> bv X.K H b y -> RelV x u -> RelV y v -> g a b = some d ->
      ∃c,d=.bl c/\∀(Q:aD),Q (.bool c) s->Mr `i X.A (f u v) Q X.xe s):jj X f (rD X.K g):=by
  rintro pins s σ H x y u v Q I rx ry ⟨O,a,b,d,hO,ha,hb,hg,q⟩;obtain⟨c,rfl,hq⟩:=h pins s σ H a b d x y u v I (ha.mono (aj H O)) (hb.mono (aj H O)) rx ry hg;exact hq _ ⟨.bl c,H,I,rfl,q _ H (aI.refl H) (gC.mpr rfl)⟩
noncomputable def pV(a b:D):aU:=if(pl a&&pl b)&&(bz 8 a||bz 8 b)then some (.bl (pyEq a b))else none
noncomputable def dY(a b:D):aU:=if(pl a&&pl b)&&(bz 8 a||bz 8 b)then some (.bl (!pyEq a b))else none
theorem wn(hu:X.A.units+64<MF):jj X (MB .Eq) (rD X.K pV):=pZ λpins s σ H a b d x y u v I ha hb ru rv hg=>by
 obtain⟨h1,h2⟩:=bg hg;subst h2;rw[Jc,Jc,JD]at h1;exact⟨_,rfl,λQ q=>C2 (n:=7) (A:=X.A) I h1.1.1 h1.1.2 h1.2 ha hb ru rv `o X.prog X.w X.xe Q q⟩
theorem xH(hu:X.A.units+64<MF):jj X (MB .NotEq) (rD X.K dY):=pZ λpins s σ H a b d x y u v I ha hb ru rv hg=>by
 obtain⟨h1,h2⟩:=bg hg;subst h2;rw[Jc,Jc,JD]at h1;exact⟨_,rfl,λQ q=>xj (n:=7) (A:=X.A) I h1.1.1 h1.1.2 h1.2 ha hb ru rv `o X.prog X.w X.xe Q q⟩
noncomputable def D6(p:Int->Int->D)(a b:D):aU:=match a,b with
 |.int i,.int j=>some (p i j)
 |_,_=>none
noncomputable def HW:=D6 λi j=>.bl (decide (i<j))
noncomputable def HN:=D6 λi j=>.bl (decide (i<=j))
noncomputable def DV:=D6 λi j=>.bl (decide (j<i))
noncomputable def Ia:=D6 λi j=>.bl (decide (j<=i))
theorem m7{K:KZ}{g:Int->Int->Bool}:c6 K (zW λi j=>.bl (g i j)) (D6 λi j=>.bl (g i j)):=λa b d x y O H Q hO hg ha hb q=>by
 cases a with
 |int i=>
  cases b with
  |int j=>cases hg;exact⟨i,j,dm.mp ha,dm.mp hb,q _ H (aI.refl H) (gC.mpr rfl)⟩
  |_=>cases hg
 |_=>cases hg
theorem rp{K:KZ}{g:Int->Int->Int}:c6 K (zW λi j=>.int (g i j)) (D6 λi j=>.int (g i j)):=λa b d x y O H Q hO hg ha hb q=>by
 cases a with
 |int i=>
  cases b with
  |int j=>cases hg;exact⟨i,j,dm.mp ha,dm.mp hb,q _ H (aI.refl H) (dm.mpr rfl)⟩
  |_=>cases hg
 |_=>cases hg
noncomputable def Fx(c:Int->Int->Bool)(p:Int->Int->Int)(a b:D):aU:=match a,b with
 |.int i,.int j=>if c i j then some (.int (p i j))else none
 |_,_=>none
theorem il{K:KZ}{C:Int->Int->Prop}{c:Int->Int->Bool}{g:Int->Int->Int}(hc:∀i j,c i j=true->C i j):c6 K (rI C λi j=>.int (g i j)) (Fx c g):=λa b d x y O H Q hO hg ha hb q=>by
 cases a with
 |int i=>
  cases b with
  |int j=>
   obtain⟨h1,h2⟩:=bg hg;subst h2;exact⟨i,j,dm.mp ha,dm.mp hb,hc i j h1,q _ H (aI.refl H) (dm.mpr rfl)⟩
  |_=>cases hg
 |_=>cases hg
noncomputable def B6:=D6 λi j=>.int (i-j)
noncomputable def kY:=Fx (λi j=>decide ((-(2^64)<i/\i<2^64)\/(-(2^64)<j/\j<2^64))) (·*·)
noncomputable def By(_ j:Int):Prop:=0<j/\j<10^200
theorem xq:jj X (MA .FloorDiv) (rI By λi j=>.int (i/j)):=FV λi j _ _ _ _ _ hc q=>by
 have h1:(0:Int)<j:=hc.1;have h2:j<10^200:=hc.2;refine PyProof.Rows.floordiv_int `o (by rw[Int.fdiv_eq_ediv_of_nonneg i `o];exact q) (.inl (PyProof.noPylong_of_log2 ?_));have h3:j.natAbs<10^200:=by omega
 rw[Nat.log2_lt `o];exact Jp h3 (by decide +kernel)
noncomputable def dB:=Fx (λ_ j=>decide (0<j/\j<10^200)) (·/·)
noncomputable def cf:=Fx (λ_ j=>decide (0<j)) (·%·)
noncomputable def qo:=Fx (λi j=>decide (0<=j/\j<=1000000/\i.natAbs<2^64)) λi j=>i^j.toNat
theorem Do{K:KZ}:c6 K (zW λi j=>.int (i-j)) B6:=rp
theorem Cd{K:KZ}:c6 K (rI B5 λi j=>.int (i*j)) kY:=il λi j h=>by have q:=of_decide_eq_true h;exact q
theorem Dv{K:KZ}:c6 K (rI By λi j=>.int (i/j)) dB:=il λi j h=>by have q:=of_decide_eq_true h;exact q
theorem DJ{K:KZ}:c6 K (rI (λ_ j=>0<j) λi j=>.int (i%j)) cf:=il λ_ _ h=>of_decide_eq_true h
theorem D9{K:KZ}:c6 K (rI Fl λi j=>.int (i^j.toNat)) qo:=il λi j h=>by have q:=of_decide_eq_true h;exact q
noncomputable def Ew(K:KZ):R2:=λx y H Q=>∃l b xs zs,x=.ref l/\y=.ref b/\jG K H l xs/\jG K H b zs/\xs.length+zs.length<=Mk/\∀p,H p=none->Q (.ref p) (upd H p (.lst (xs++zs)))
theorem Ax:jj X (MA .Add) (Ew X.K):=by
 intro pins s σ H x y v u Q I rx ry h;obtain⟨l,b,xs,zs,rfl,rfl,hH,hB,hz,q⟩:=h;cases rx;cases ry;obtain⟨its,r,t1,_⟩:=I.list hH;obtain⟨its2,r2,t2,_⟩:=I.list hB;obtain⟨⟨c1,d1,dt1,sl1⟩,n1,ho,hc,hd,hdt⟩:=t1;obtain⟨⟨c2,d2,dt2,sl2⟩,n2,ho2,hc2,hd2,hdt2⟩:=t2;simp only at hc hd hdt hc2 hd2 hdt2;subst hc hd hdt hc2 hd2 hdt2;have z1:=r.length;have z2:=r2.length;refine ML ⟨_,ho,rfl⟩ ⟨_,ho2,rfl⟩ noFill_list_add seq_list_add F.slot_list_add F.entry_list_add (F.args_list_add_2 _ _) (PyProof.Rows.list_addW l b its.toArray its2.toArray n1 n2 none none sl1 sl2 (by rw[IL,IL];omega)) ⟨ho,ho2,?_⟩;have ea:its.toArray++its2.toArray=(its++its2).toArray:=by simp
 rw[ea];exact⟨.ref _,_,I.lnew (t':=s.toks) (r.append r2) (by rw[IY];omega),rfl,q _ I.fresh⟩
noncomputable def CJ(K:KZ):R2:=λx y H Q=>∃a b xs ys,x=.ref a/\y=.ref b/\mK K H a xs/\mK K H b ys/\xs.length+ys.length<=Mk/\
 (xs=[]->Q (.ref b) H)/\(xs≠[]->ys=[]->Q (.ref a) H)/\(xs≠[]->ys≠[]->∀p,H p=none->Q (.ref p) (upd H p (.tup (xs++ys))))
theorem wD:jj X (MA .Add) (CJ X.K):=by
 intro pins s σ H x y v u Q I rx ry h;obtain⟨a,b,xs,ys,ex,ey,ha,hb,hz,q0,q1,q2⟩:=h;by_cases hx:xs=[]
 ·subst ex ey;cases rx;cases ry;obtain⟨its,r1,p1,_⟩:=I.tuple ha;obtain⟨its2,r2,p2,_⟩:=I.tuple hb;obtain⟨⟨cls,dd,data,sl⟩,ho,hc,n,hd⟩:=id p1;obtain⟨⟨cls2,dd2,data2,sl2⟩,ho2,hc2,n2,hd2⟩:=id p2;simp only at hc hd hc2 hd2;subst hc hd hc2 hd2;have e:its=[]:=r1.nil_iff.mpr hx;exact ML ⟨_,ho,rfl⟩ ⟨_,ho2,rfl⟩ MM MN F.slot_tuple_add F.entry_tuple_add (F.args_tuple_add_2 _ _)
   (PyProof.Rows.tuple_addW0 a b its.toArray its2.toArray n n2 dd dd2 sl sl2 (by rw[e];rfl)) ⟨ho,ho2,⟨.ref b,H,I,rfl,q0 hx⟩⟩
 ·exact zS pins s σ H x y v u Q I rx ry ⟨a,b,xs,ys,ex,ey,ha,hb,hx,hz,q1 hx,q2 hx⟩
noncomputable def eV(a b:D):aU:=match a,b with
 |.int i,.int j=>some (.int (i+j))
 |.str x,.str y=>if small (x.length+y.length)then some (.str (x++y))else none
 |.lst xs,.lst ys=>if small (xs.length+ys.length)then some (.lst (xs++ys))else none
 |.tup xs,.tup ys=>if small (xs.length+ys.length)then some (.tup (xs++ys))else none
 |_,_=>none
theorem Ai:jj X (MA .Add) (rD X.K eV):=by
 rintro pins s σ H x y u v Q I rx ry ⟨O,a,b,d,hO,ha,hb,hg,q⟩;cases a with
 |int i=>
  cases b with
  |int j=>
   cases hg;exact Cw pins s σ H x y u v Q I rx ry ⟨i,j,dm.mp ha,dm.mp hb,q _ H (aI.refl H) (dm.mpr rfl)⟩
  |_=>cases hg
 |str i=>
  cases b with
  |str j=>
   obtain⟨h1,h2⟩:=bg hg;subst h2;exact rE pins s σ H x y u v Q I rx ry ⟨i,j,cM.mp ha,cM.mp hb,bZ h1,q _ H (aI.refl H) (cM.mpr rfl)⟩
  |_=>cases hg
 |lst xs=>
  cases b with
  |lst ys=>
   obtain⟨h1,h2⟩:=bg hg;subst h2;rw[bn]at ha hb;obtain⟨p,vs,ex,g1,g2⟩:=ha;obtain⟨p',vs',ey,g1',g2'⟩:=hb;refine Ax pins s σ H x y u v Q I rx ry ⟨p,p',vs,vs',ex,ey,(aj H O).seq g1,(aj H O).seq g1',?_,λr hr=>?_⟩
   ·rw[<-g2.length,<-g2'.length];exact bZ h1
   ·exact q _ _ (aW hr _) (ck hO hr (g2.append g2'))
  |_=>cases hg
 |tup xs=>
  cases b with
  |tup ys=>
   obtain⟨h1,h2⟩:=bg hg;subst h2;have da:=ha;have db:=hb;rw[bh]at ha hb;obtain⟨p,vs,ex,g1,g2⟩:=ha;obtain⟨p',vs',ey,g1',g2'⟩:=hb;have l1:=g2.length;have l2:=g2'.length;refine wD pins s σ H x y u v Q I rx ry ⟨p,p',vs,vs',ex,ey,aV (aj H O) g1,aV (aj H O) g1',?_,λz=>?_,λz z'=>?_,λz z' r hr=>?_⟩
   ·rw[<-l1,<-l2];exact bZ h1
   ·have e:xs=[]:=List.length_eq_zero_iff.mp (by rw[l1,z];rfl);rw[<-ey];refine q _ H (aI.refl H) ?_;rw[e,JE];exact db
   ·have e:ys=[]:=List.length_eq_zero_iff.mp (by rw[l2,z'];rfl);rw[<-ex];refine q _ H (aI.refl H) ?_;rw[e,IM];exact da
   ·exact q _ _ (aW hr _) (eA hO hr (g2.append g2'))
  |_=>cases hg
 |_=>cases hg
noncomputable def aR(a b:D):aU:=match a,b with
 |.tup xs,.int i=>jH xs i
 |.lst xs,.int i=>jH xs i
 |.str x,.int i=>if small x.length then(jH x.cps.toList i).bind λc=>some (.str ⟨#[c]⟩)else none
 |_,_=>none
theorem uC{K:KZ}{H:Hp}{ds:List D}{vs:aB}{i:Int}{d:D}(h:ax K H ds vs)(e:jH ds i=some d):∃v,jH vs i=some v/\bv K H d v:=by
 unfold jH at e ⊢;obtain⟨j,e1,e2⟩:=bind_some e;rw[<-h.length,e1];exact h.get e2
theorem G4:Fv X (rD X.K aR):=by
 rintro value slice pins s σ H x y u v Q I rx ry ⟨O,a,b,d,hO,ha,hb,hg,q⟩ hsub;cases a with
 |tup xs=>
  cases b with
  |int i=>
   rw[bh]at ha;obtain⟨p,vs,ex,g1,g2⟩:=ha;obtain⟨w,e1,e2⟩:=uC g2 hg;refine Ea value slice pins s σ H x y u v Q I rx ry ?_ hsub;exact⟨p,vs,i,w,ex,dm.mp hb,aV (aj H O) g1,e1,q w H (aI.refl H) e2⟩
  |_=>cases hg
 |lst xs=>
  cases b with
  |int i=>
   rw[bn]at ha;obtain⟨p,vs,ex,g1,g2⟩:=ha;obtain⟨w,e1,e2⟩:=uC g2 hg;refine oz value slice pins s σ H x y u v Q I rx ry ?_ hsub;exact⟨p,vs,i,w,ex,dm.mp hb,(aj H O).seq g1,e1,q w H (aI.refl H) e2⟩
  |_=>cases hg
 |str z=>
  cases b with
  |int i=>
   have hg':(if small z.length then(jH z.cps.toList i).bind λc=>some (D.str ⟨#[c]⟩)else none)=some d:=hg;cases hs:small z.length with
   |false=>rw[hs]at hg';cases hg'
   |true=>
    rw[hs]at hg';obtain⟨c,e1,e2⟩:=bind_some hg';cases e2;refine CN value slice pins s σ H x y u v Q I rx ry ?_ hsub;exact⟨z,i,c,cM.mp ha,dm.mp hb,bZ hs,e1,q _ H (aI.refl H) (cM.mpr rfl)⟩
  |_=>cases hg
 |_=>cases hg
noncomputable def cutD{α:Type}(xs:List α)(lo hi:bX):List α:=(xs.drop (HT.sIx xs.length 0 lo)).take (HT.sIx xs.length xs.length hi-HT.sIx xs.length 0 lo)
theorem mQ{M:Mq}{A:Mo}{E:aD}{s:Mf}{t:Ma}{items:Array L8}{Q:Bool->cF}(ht:LO s.heap t items)(h:Q true s):Mr M A (Builtin.Tuple.tupleIsExact (.ref t)) Q E s:=by
 unfold Builtin.Tuple.tupleIsExact;refine My (MT ht.typeIs ?_);exact Mx h
theorem iV{prog:Mh}{w:Mg}{A:Mo}{E:aD}{s:Mf}{t sl:Ma}{items:Array L8}{vl vu:L8}{lo hi:bX}{Q:aD}(ht:LO s.heap t items)(hs:s.heap.IsSliceOf sl vl vu .none)(pl:MO vl lo)(pu:MO vu hi)
  (hw:HT.sIx items.size 0 lo=0/\HT.sIx items.size items.size hi=items.size) (h:Q (.ref t) s):Mr `g A (getItem (.ref t) (.ref sl)) Q E s:=by
 obtain⟨os,hos,hcs,hds⟩:=id hs;have hTs:s.TypeIs (.ref sl) "slice":=⟨os,hos,hcs⟩
 unfold getItem
 try with_reducible refine MQ ?_
 first|refine My (Mx ?_)|skip
 refine My (wpAny_sequenceKey ht.typeIs (by decide) ?_);refine My (MR (name:=Str.ofString "__getitem__") ht.typeIs LL
  (MS LL ht.typeIs PyProof.Rows.entry_tuple_getitem ?_ (PyProof.Rows.args_tuple_getitem _ _)))
 show Mr _ _ (Builtin.Tuple.tupleItemsOf (.ref t) >>= _) _ _ s;refine My (PyProof.Rows.tupleItemsOf_ ht ?_);refine My (MT hTs ?_);rw[if_pos (by decide)];refine My (HT.kK hs pl pu ?_);have hyes:(((HT.sIx items.size 0 lo:Nat):Int)==0&&(1:Int)==1&&(HT.sIx items.size items.size hi-HT.sIx items.size 0 lo)==items.size)=true:=by
  rw[hw.1,hw.2];simp
 show Mr _ _ (if(((HT.sIx items.size 0 lo:Nat):Int)==0&&(1:Int)==1&&(HT.sIx items.size items.size hi-HT.sIx items.size 0 lo)==items.size)=true then _ else _) _ _ s;rw[if_pos hyes];refine My (mQ ht ?_);rw[if_pos rfl]
 first
  |exact My (M6 (Mx ⟨_,rfl,Mx h⟩))
  |exact My (M6 (My (Mx (Mx ⟨_,rfl,Mx h⟩))))
noncomputable def me(a:D)(lo hi:bX):aU:=match a with
 |.lst xs=>some (.lst (cutD xs lo hi))
 |.tup xs=>some (.tup (cutD xs lo hi))
 |.str x=>if small x.length then some (.str ⟨(cutD x.cps.toList lo hi).toArray⟩)else none
 |_=>none
theorem BW(v:bX)(d n:Nat)(hd:d<=n):(match v with|none=>(d:Int)|some i=>if(1:Int)>0 then max 0 (min (if i<0 then i+(n:Int)else i) (n:Int))else max (-1) (min (if i<0 then i+(n:Int)else i) ((n:Int)-1)))=((HT.sIx n d v:Nat):Int):=by
 cases v with
 |none=>rfl
 |some i=>
  show(if(1:Int)>0 then max 0 (min (if i<0 then i+(n:Int)else i) (n:Int))else max (-1) (min (if i<0 then i+(n:Int)else i) ((n:Int)-1)))=(((if i<0 then(i+(n:Int)).toNat else min i.toNat n):Nat):Int)
  rw[if_pos (by decide)];by_cases h:i<0
  ·rw[if_pos h,if_pos h];omega
  ·rw[if_neg h,if_neg h];omega
theorem wf(lo hi:bX)(n:Nat):Builtin.Str.strSliceIndices lo hi 1 n=(List.range (HT.sIx n n hi-HT.sIx n 0 lo)).map λk=>HT.sIx n 0 lo+k:=by
 have e1:=BW lo 0 n (Jq _);have e2:=BW hi n n (IJ _);have e:Builtin.Str.strSliceIndices lo hi 1 n=sliceRange ((HT.sIx n 0 lo:Nat):Int) ((HT.sIx n n hi:Nat):Int) 1:=by
  rw[<-e1,<-e2];cases lo<;>cases hi<;>rfl
 rw[e];unfold sliceRange;dsimp only;rw[if_pos (by decide:(1:Int)>0)];have e3:(if((HT.sIx n 0 lo:Nat):Int)<((HT.sIx n n hi:Nat):Int)then(((HT.sIx n n hi:Nat):Int)-((HT.sIx n 0 lo:Nat):Int)+1-1)/1 else 0:Int).toNat=HT.sIx n n hi-HT.sIx n 0 lo:=by
  rw[Int.ediv_one];split<;>omega
 rw[e3];refine JF λk _=>?_;omega
theorem xB{α:Type}(l:List α)(a:Nat):∀n:Nat,((List.range n).map λk=>a+k).filterMap (λi=>l[i]?)=(l.drop a).take n
 |0=>by simp
 |n+1=>by
  rw[List.range_succ,JG,List.filterMap_append,xB l a n,List.take_add_one,JI];cases e:l[a+n]?<;>simp[e]
theorem vi(x:Str)(lo hi:bX):Txt.slice x lo hi=⟨(cutD x.cps.toList lo hi).toArray⟩:=by
 have hl:x.cps.toList.length=x.length:=by simp[Str.length]
 have pick:(Builtin.Str.strSliceIndices lo hi 1 x.length).filterMap (x.cps[·]?)=cutD x.cps.toList lo hi:=by
  rw[wf];have q:=xB x.cps.toList (HT.sIx x.length 0 lo) (HT.sIx x.length x.length hi-HT.sIx x.length 0 lo);unfold cutD;rw[hl,<-q];congr 1;funext i;simp
 unfold Txt.slice;split
 ·rename_i h;have h':(Builtin.Str.strSliceIndices lo hi 1 x.length).length=x.length:=by simpa using h
  rw[wf,IZ,JK]at h';have h1:=HT.B9 x.length x.length (IJ _) hi;have z1:HT.sIx x.length 0 lo=0\/x.length=0:=by omega
  have e:cutD x.cps.toList lo hi=x.cps.toList:=by
   unfold cutD;rw[hl,h'];rcases z1 with z1|z1
   ·rw[z1,Jx,<-hl,List.take_length]
   ·have:x.cps.toList=[]:=List.length_eq_zero_iff.mp (by rw[hl];exact z1)
    rw[this];simp
  rw[e]
 ·rw[pick]
noncomputable def Hc(K:KZ):V->bX->bX->Hp->VK->Prop:=λx lo hi H Q=>∃O a d,bQ H O/\bv K (hid H O) a x/\me a lo hi=some d/\∀v H',aI H H'->bv K (hid H' O) d v->Q v H'
theorem ax.cut{K:KZ}{H:Hp}{ds:List D}{vs:aB}(h:ax K H ds vs)(lo hi:bX):ax K H (cutD ds lo hi) (qX vs lo hi):=by
 unfold cutD qX;rw[h.length];exact(h.drop _).take _
theorem GH:F6 X (Hc X.K):=by
 rintro pins s σ H x v vl vu lo hi sl Q I rx hs pl pu ⟨O,a,d,hO,ha,hg,q⟩;cases a with
 |lst xs=>
  cases hg;rw[bn]at ha;obtain⟨p,vs,ex,g1,g2⟩:=ha;exact zA pins s σ H x v vl vu lo hi sl Q I rx hs pl pu ⟨p,vs,ex,(aj H O).seq g1,λr hr=>q _ _ (aW hr _) (ck hO hr (g2.cut lo hi))⟩
 |tup xs=>
  cases hg;have da:=ha;rw[bh]at ha;obtain⟨p,vs,ex,g1,g2⟩:=ha;by_cases hw:HT.sIx vs.length 0 lo=0/\HT.sIx vs.length vs.length hi=vs.length
  ·subst ex;cases rx;obtain⟨its,r,ht,hz⟩:=I.tuple (aV (aj H O) g1);have hlen:its.toArray.size=vs.length:=(by rw[IL];exact r.length.symm);refine⟨"tuple",_,PyProof.Rows.slot_tuple_getitem.lookup,ht.typeIs,iV ht hs pl pu (by rw[hlen];exact hw) ⟨.ref p,H,I,rfl,q _ H (aI.refl H) ?_⟩⟩;have e:cutD xs lo hi=xs:=by
    unfold cutD;rw[g2.length,hw.1,hw.2,JM,Jx,<-g2.length,List.take_length]
   rw[e];exact da
  ·exact DW pins s σ H x v vl vu lo hi sl Q I rx hs pl pu ⟨p,vs,ex,aV (aj H O) g1,hw,λr hr=>q _ _ (aW hr _) (eA hO hr (g2.cut lo hi))⟩
 |str z=>
  obtain⟨h1,h2⟩:=bg hg;subst h2;rw[cM]at ha;subst ha;obtain⟨t,rfl⟩:=rx;have fin:∀t' tk,EP X pins σ Q (.str (Txt.slice z lo hi) t') {s with toks:=tk}:=λt' tk=>by
   rw[vi];exact⟨.str _,H,I.tok _,⟨_,rfl⟩,q _ H (aI.refl H) (cM.mpr rfl)⟩
  obtain⟨os,hos,hcs,hds⟩:=id hs;have hz:=bZ h1;refine⟨"str",_,F.slot_str_getitem.lookup,typeIs_str _ _ _,?_⟩;cases pl with
  |none=>
   cases pu with
   |none=>exact M7 (l:=none) (u:=none) (st:=none) ⟨os,hos,hcs,hds⟩ rfl (M8 ⟨Iy (Txt.slice_le z _ _) hz,λt' k=>fin t' k⟩)
   |int j tj=>exact M7 (l:=none) (u:=some (j,tj)) (st:=none) ⟨os,hos,hcs,hds⟩ rfl (M8 ⟨Iy (Txt.slice_le z _ _) hz,λt' k=>fin t' k⟩)
  |int i ti=>
   cases pu with
   |none=>exact M7 (l:=some (i,ti)) (u:=none) (st:=none) ⟨os,hos,hcs,hds⟩ rfl (M8 ⟨Iy (Txt.slice_le z _ _) hz,λt' k=>fin t' k⟩)
   |int j tj=>exact M7 (l:=some (i,ti)) (u:=some (j,tj)) (st:=none) ⟨os,hos,hcs,hds⟩ rfl (M8 ⟨Iy (Txt.slice_le z _ _) hz,λt' k=>fin t' k⟩)
 |_=>cases hg
noncomputable def Al:ak->R (bX):=λ_=>.ok none
noncomputable def sA:D->Option (bX)
 |.int i=>some (some i)
 |_=>none
noncomputable def pT(f:FX):ak->R (bX):=λρ=>(f ρ).bind λd=>rO (sA d)
noncomputable def HU(X:Cx)(F:ak->R bX):TO:=λσ H Q=>∃O ρ,b7 X.K O H ρ σ/\gk X σ O H (F ρ) λo=>∀H',aI H H'->Q o H'
noncomputable def FO(X:Cx)(e:Option Mb)(F:ak->R bX):Prop:=PO X e (HU X F)
noncomputable def pq(f:FX)(l h:ak->R bX):FX:=λρ=>(f ρ).bind λa=>(l ρ).bind λlo=>(h ρ).bind λhi=>rO (me a lo hi)
end
end TG
namespace TG
open PySem PySem.Spec L2
variable[aq]
noncomputable def zk(K:KZ)(g:List D->aU):aB->Hp->VK->Prop:=λxs H Q=>∃O ds d,bQ H O/\ax K (hid H O) ds xs/\g ds=some d/\∀v H',aI H H'->bv K (hid H' O) d v->Q v H'
theorem lH{K:KZ}{g:List D->aU}:tQ K (zk K g) g:=λds d xs O H Q hO hg hd q=>⟨O,ds,d,hO,hd,hg,q⟩
section
variable{X:Cx}{x:Str}{p pos:Pos}{e:Mb}{es:aX}{id T:String}{g:List D->aU}{f:aN}
noncomputable def sF:List D->aU
 |[.lst xs]=>some (.int xs.length)
 |[.tup xs]=>some (.int xs.length)
 |[.str x]=>if small x.length then some (.int x.length)else none
 |_=>none
theorem uN:dz X (.builtin "len") (zk X.K sF):=by
 rintro pins s σ H xs us Q I r ⟨O,ds,d,hO,hd,hg,q⟩;unfold sF at hg;split at hg
 ·rename_i ys;cases hg;obtain⟨v,ev,h1⟩:=hd.one;rw[bn]at h1;obtain⟨p,vs,ep,g1,g2⟩:=h1;exact jg pins s σ H xs us Q I r ⟨p,vs,by rw[ev,ep],.inl ((aj H O).seq g1),q _ H (aI.refl H) (dm.mpr (by rw[g2.length]))⟩
 ·rename_i ys;cases hg;obtain⟨v,ev,h1⟩:=hd.one;rw[bh]at h1;obtain⟨p,vs,ep,g1,g2⟩:=h1;exact jg pins s σ H xs us Q I r ⟨p,vs,by rw[ev,ep],.inr (aV (aj H O) g1),q _ H (aI.refl H) (dm.mpr (by rw[g2.length]))⟩
 ·rename_i z;obtain⟨h1,h2⟩:=bg hg;subst h2;obtain⟨v,ev,h1'⟩:=hd.one;exact pg pins s σ H xs us Q I r ⟨z,by rw[ev,cM.mp h1'],bZ h1,q _ H (aI.refl H) (dm.mpr rfl)⟩
 ·cases hg
noncomputable def cE:List D->aU
 |[.lst xs]=>some (.tup xs)
 |[.tup xs]=>some (.tup xs)
 |_=>none
theorem qe:dz X (.type "tuple") (zk X.K cE):=by
 rintro pins s σ H xs us Q I r ⟨O,ds,d,hO,hd,hg,q⟩;unfold cE at hg;split at hg
 ·rename_i ys;cases hg;obtain⟨v,ev,h1⟩:=hd.one;rw[bn]at h1;obtain⟨p,vs,ep,g1,g2⟩:=h1;exact iY pins s σ H xs us Q I r ⟨p,vs,by rw[ev,ep],.inl ⟨(aj H O).seq g1,λl hl=>q _ _ (aW hl _) (eA hO hl g2)⟩⟩
 ·rename_i ys;cases hg;obtain⟨v,ev,h1⟩:=hd.one;have h0:=h1;rw[bh]at h1;obtain⟨p,vs,ep,g1,g2⟩:=h1;rw[ep]at h0;exact iY pins s σ H xs us Q I r ⟨p,vs,by rw[ev,ep],.inr ⟨aV (aj H O) g1,q _ H (aI.refl H) h0⟩⟩
 ·cases hg
noncomputable def iZ:List D->aU
 |[.lst xs]=>some (.lst xs)
 |[.tup xs]=>some (.lst xs)
 |_=>none
theorem sd:dz X (.type "list") (zk X.K iZ):=by
 rintro pins s σ H xs us Q I r ⟨O,ds,d,hO,hd,hg,q⟩;unfold iZ at hg;split at hg
 ·rename_i ys;cases hg;obtain⟨v,ev,h1⟩:=hd.one;rw[bn]at h1;obtain⟨p,vs,ep,g1,g2⟩:=h1;exact fS pins s σ H xs us Q I r ⟨p,vs,by rw[ev,ep],.inl ((aj H O).seq g1),λl hl=>q _ _ (aW hl _) (ck hO hl g2)⟩
 ·rename_i ys;cases hg;obtain⟨v,ev,h1⟩:=hd.one;rw[bh]at h1;obtain⟨p,vs,ep,g1,g2⟩:=h1;exact fS pins s σ H xs us Q I r ⟨p,vs,by rw[ev,ep],.inr (aV (aj H O) g1),λl hl=>q _ _ (aW hl _) (ck hO hl g2)⟩
 ·cases hg
noncomputable def FK:List D->aU
 |[.int i,.int j]=>some (.int (if j>i then j else i))
 |_=>none
noncomputable def EA:List D->aU
 |[.int i,.int j]=>some (.int (if j<i then j else i))
 |_=>none
noncomputable def CK:D->String
 |.non=>"NoneType"
 |.bl _=>"bool"
 |.int _=>"int"
 |.str _=>"str"
 |.tup _=>"tuple"
 |.lst _=>"list"
 |.dct _ _=>"dict"
 |_=>""
noncomputable def zr(T:String)(d:D):Bool:=match d with
 |.bl _=>T=="bool"||T=="int"
 |.non=>T=="NoneType"
 |.int _=>T=="int"
 |.str _=>T=="str"
 |.tup _=>T=="tuple"
 |.lst _=>T=="list"
 |.dct _ _=>T=="dict"
 |_=>false
noncomputable def yt(K:KZ)(T:String):Prop:=∀d:D,top d=true->Ld K (.type (CK d)) (.type T)=some (zr T d)
noncomputable def Hu(K:KZ)(T:String):aB->Hp->VK->Prop:=λxs H Q=>∃O x d,xs=[x,.ty T]/\top d=true/\bv K (hid H O) d x/\Q (.bl (zr T d)) H
theorem wy(ok:yt X.K T):dz X (.builtin "isinstance") (Hu X.K T):=by
 rintro pins s σ H xs us Q I r ⟨O,x,d,ex,td,hd,q⟩;subst ex;obtain⟨u,w',rfl,rx,rt⟩:=vals2 r;cases rt;have e:=ok d td;have fin:∀tk,EP X pins σ Q (.bool (zr T d)) {s with toks:=tk}:=λtk=>⟨.bl _,H,I.tok _,rfl,q⟩
 cases cH I td (hd.mono (aj H O)) rx with
 |non=>exact Le PySem.W.kitx_none I.kIn True.intro e (λz=>nomatch z) fin
 |bl b=>exact Le PySem.W.kitx_bool I.kIn True.intro e (λz=>nomatch z) fin
 |int i t=>exact Le PySem.W.kitx_int I.kIn True.intro e (λz=>nomatch z) fin
 |str y t=>exact Le PySem.W.kitx_str I.kIn True.intro e (λz=>nomatch z) fin
 |tup h rv t=>
  obtain⟨o,h1,h2,_⟩:=t;exact Le PySem.W.kitx_tuple I.kIn ⟨o,h1,h2⟩ e (λz=>nomatch z) fin
 |lst h rv t=>
  obtain⟨o,h1,h2,_⟩:=t;exact Le PySem.W.kitx_list I.kIn ⟨o,h1,h2⟩ e (λz=>nomatch z) fin
theorem xJ:Mm "isinstance"=some (.builtin "isinstance"):=by first|rfl|decide +kernel
noncomputable def zY(T:String)(d:D):aU:=if top d then some (.bl (zr T d))else none
noncomputable def kG(T:String)(f:FX):FX:=f1 (zY T) f
end
section
variable{X:Cx}{a:Mb}{f:FX}{pos:Pos}
noncomputable def isNon:D->Bool
 |.non=>true
 |_=>false
noncomputable def GX(d:D):aU:=some (.bl (isNon d))
noncomputable def Fc(d:D):aU:=some (.bl (!isNon d))
noncomputable def Hw(f:FX):FX:=f1 GX f
noncomputable def E6(f:FX):FX:=f1 Fc f
end
noncomputable def Walk(K:KZ)(Hd:Hp)(J:It)(ds:List D):Prop:=
 ∀(Hn:Hp)(O':au)(i:Nat),bQ Hn O'->aI Hd (hid Hn O')->(∀d,ds[i]?=some d->J.go i Hn/\∀x H2,J.yld i Hn x H2->aI Hn H2/\bv K (hid H2 O') d x)/\(i=ds.length->J.stop i Hn)
noncomputable def Gp(X:Cx)(G:aN):TI:=λσ H RR=>∃O ρ,b7 X.K O H ρ σ/\gk X σ O H (G ρ) λds=>∀J H1,aI H H1->Walk X.K (hid H1 O) J ds->RR J H1
noncomputable def FI(X:Cx)(tg iter:Mb)(G:aN):Prop:=PI X tg iter (Gp X G)
noncomputable def lL:D->iU
 |.lst xs=>some xs
 |.tup xs=>some xs
 |_=>none
noncomputable def bq(f:FX):aN:=λρ=>(f ρ).bind λd=>rO (lL d)
section
variable{X:Cx}{tg:Mb}
theorem vW{K:KZ}{Hd:Hp}{a:Ma}{ds:List D}{vs:aB}(h:jG K Hd a vs)(g:ax K Hd ds vs):Walk K Hd (Gv K a) ds:=λHn O' i hO s=>
  have s':aI Hd Hn:=s.trans (aj Hn O')
  ⟨fun d e=>by
    obtain⟨v,ev,dv⟩:=g.get e;refine⟨⟨vs,v,s'.seq h,ev⟩,λx H2 zq=>zq.elim λe2 y=>?_⟩;have q:=y vs (s'.seq h);rw[ev]at q;cases q;subst e2;exact⟨aI.refl _,dv.mono s⟩,
   λhl=>⟨vs,s'.seq h,by rw[<-g.length];exact Ji hl.symm⟩⟩
theorem zf{K:KZ}{Hd:Hp}{a:Ma}{ds:List D}{vs:aB}(h:Hd a=some (.tup vs))(g:ax K Hd ds vs):Walk K Hd (Hm K a) ds:=λHn O' i hO s=>
  have s':aI Hd Hn:=s.trans (aj Hn O')
  ⟨fun d e=>by
    obtain⟨v,ev,dv⟩:=g.get e;refine⟨⟨vs,v,aV s' h,ev⟩,λx H2 zq=>zq.elim λe2 y=>?_⟩;have q:=y vs (aV s' h);rw[ev]at q;cases q;subst e2;exact⟨aI.refl _,dv.mono s⟩,
   λhl=>⟨vs,aV s' h,by rw[<-g.length];exact Ji hl.symm⟩⟩
noncomputable def bA(lo:Int)(n:Nat):List D:=(List.range n).map λ(k:Nat)=>D.int (lo+(k:Int))
theorem mO(lo:Int)(n:Nat):(bA lo n).length=n:=by unfold bA;rw[IZ,JK]
theorem sO{K:KZ}{Hd:Hp}(lo:Int)(n:Nat):Walk K Hd (F3 lo n) (bA lo n):=λHn O' i hO s=>
  ⟨fun d e=>by
    unfold bA at e;rw[IV]at e;cases hi:(List.range n)[i]? with
    |none=>rw[hi]at e;cases e
    |some k=>
      rw[hi]at e;cases e;have hlt:i<n:=by
        have:=(List.getElem?_eq_some_iff.mp hi).1
        rwa [JK]at this
      have ek:k=i:=by
        rw[List.getElem?_range hlt]at hi;exact(Option.some.inj hi).symm
      subst ek;exact⟨hlt,λx H2 zq=>zq.elim λe1 e2=>by subst e1;exact⟨aI.refl _,dm.mpr e2⟩⟩,
   λhl=>by rw[mO]at hl;exact Ji hl.symm⟩
noncomputable def okR(j:Int):Bool:=decide (-(2^62)<=j/\j<2^62)
noncomputable def lw:List D->iU
 |[.int j]=>if okR j then some (bA 0 j.toNat)else none
 |_=>none
noncomputable def ud:List D->iU
 |[.int i,.int j]=>if okR i&&okR j then some (bA i (j-i).toNat)else none
 |_=>none
noncomputable def cB(f:aN):aN:=λρ=>(f ρ).bind λds=>rO (lw ds)
noncomputable def z7(f:aN):aN:=λρ=>(f ρ).bind λds=>rO (ud ds)
end
noncomputable abbrev GF:=D->ak->Option ak
noncomputable def Ez(K:KZ)(g:GF):TG:=λv σ H Q=>∃O ρ d ρ',b7 K O H ρ σ/\bv K (hid H O) d v/\g d ρ=some ρ'/\∀σ',b7 K O H ρ' σ'->(∀(i:Nat) x,ρ'[i]?=some (some x)->(∀d,x≠.val d)->σ'[i]?=σ[i]?/\ρ[i]?=some (some x))->Q σ' H
noncomputable def FG(X:Cx)(tg:Mb)(g:GF):Prop:=PG X tg (Ez X.K g)
noncomputable def setV(i:Nat)(d:D)(ρ:ak):ak:=ρ.set i (some (.val d))
theorem av{α:Type}{l:List α}{i j:Nat}{a b:α}(h:(l.set i a)[j]?=some b):(j=i/\b=a)\/(j≠i/\l[j]?=some b):=by
 by_cases e:j=i
 ·subst e;left;have hj:j<(l.set j a).length:=(List.getElem?_eq_some_iff.mp h).1;rw[JN]at hj;rw[IG hj]at h;exact⟨rfl,(Option.some.inj h).symm⟩
 ·right;rw[IH (Ne.symm e)]at h;exact⟨e,h⟩
theorem b7.setV{K:KZ}{O:au}{H:Hp}{ρ:ak}{σ:St}(E:b7 K O H ρ σ){i:Nat}{d:D}{v:V}(hi:i<σ.length)(hd:bv K (hid H O) d v):b7 K O H (setV i d ρ) (σ.set i (some v)):=
  ⟨fun j d' e=>by
    rcases av e with⟨hj,eq⟩|⟨ne,eq⟩
    ·cases eq;rw[hj];exact⟨v,IG hi,hd⟩
    · obtain⟨w,e1,e2⟩:=E.val j d' eq
      exact⟨w,by rw[IH (Ne.symm ne)];exact e1,e2⟩,
   λj xs e=>by
    rcases av e with⟨_,eq⟩|⟨ne,eq⟩
    ·cases eq
    · obtain⟨a,e1,e2⟩:=E.own j xs eq
      exact⟨a,by rw[IH (Ne.symm ne)];exact e1,e2⟩,
   λj k xs ys a e1 e2 e3 e4=>by
    rcases av e1 with⟨_,q1⟩|⟨ne1,q1⟩
    ·cases q1
    · rcases av e2 with⟨_,q2⟩|⟨ne2,q2⟩
      ·cases q2
      · rw[IH (Ne.symm ne1)]at e3
        rw[IH (Ne.symm ne2)]at e4;exact E.one j k xs ys a q1 q2 e3 e4,E.all⟩
section
variable{X:Cx}{pos:Pos}
noncomputable def gN(i:Nat):GF:=λd ρ=>some (setV i d ρ)
noncomputable abbrev v8:=List D->ak->Option ak
noncomputable def HE(K:KZ)(g:v8):BL:=λvs σ H Q=>∃O ρ ds ρ',b7 K O H ρ σ/\ax K (hid H O) ds vs/\g ds ρ=some ρ'/\∀σ',b7 K O H ρ' σ'->(∀(i:Nat) x,ρ'[i]?=some (some x)->(∀d,x≠.val d)->σ'[i]?=σ[i]?/\ρ[i]?=some (some x))->Q σ' H
noncomputable def HZ(X:Cx)(ts:aX)(g:v8):Prop:=Ey X ts (HE X.K g)
noncomputable def BR:v8:=λds ρ=>match ds with
 |[]=>some ρ
 |_=>none
noncomputable def za(g:GF)(h:v8):v8:=λds ρ=>match ds with
 |d::r=>(g d ρ).bind λρ1=>h r ρ1
 |_=>none
noncomputable def gT(n:Nat)(g:v8):GF:=λd ρ=>match d with
 |.tup xs=>if xs.length=n then g xs ρ else none
 |_=>none
end
noncomputable def pM{α:Type}(r:R α):R α:=match r with
 |.ok a=>.ok a
 |.error _=>un
theorem yr{α:Type}{r:R α}{a:α}(h:pM r=.ok a):r=.ok a:=by
 cases r with
 |ok b=>exact h
 |error z=>cases h
noncomputable def inB(ix:dA)(ρ:ak):ak:=ix.map λo=>match o with
 |some i=>match ρ[i]? with
  |some (some (.val d))=>some (.val d)
  |_=>none
 |none=>none
noncomputable def ri(ρ:ak)(g:GF)(C:aY)(Fe:FX):List D->R (List D)
 |[]=>.ok []
 |d::ds=>(rO (g d ρ)).bind λρ1=>(pM (C ρ1)).bind λc=>if c then(pM (Fe ρ1)).bind λv=>(ri ρ g C Fe ds).bind λr=>.ok (v::r)else ri ρ g C Fe ds
theorem mB(ρ:ak)(g:GF)(C:aY)(Fe:FX)(d:D)(ds:List D):ri ρ g C Fe (d::ds)=(rO (g d ρ)).bind λρ1=>(pM (C ρ1)).bind λc=>if c then(pM (Fe ρ1)).bind λv=>(ri ρ g C Fe ds).bind λr=>.ok (v::r)else ri ρ g C Fe ds:=rfl
noncomputable def fW(ix:dA)(G:aN)(g:GF)(C:aY)(Fe:FX):FX:=λρ=>(G ρ).bind λds=>if small ds.length then pM ((ri (inB ix ρ) g C Fe ds).bind λr=>.ok (.lst r))else un
noncomputable def Hg(X:Cx)(ifs:aX)(F:aY):Prop:=DF X ifs (Gd X F)
noncomputable def b9:aY:=λ_=>.ok true
theorem zT{X:Cx}:Hg X [] b9:=λpins s σ H Q I zq=>zq.elim λO zq=>zq.elim λρ zq=>zq.elim λE q=>AG pins s σ H Q I (q H (aI.refl H))
theorem jr{ix:dA}{ρ:ak}{j:Nat}{x:S}(e:(inB ix ρ)[j]?=some (some x)):∃i d,ix[j]?=some (some i)/\ρ[i]?=some (some (.val d))/\x=.val d:=by
 unfold inB at e;rw[IV]at e;cases q:ix[j]? with
 |none=>rw[q]at e;cases e
 |some o=>
  rw[q]at e;cases o with
  |none=>cases e
  |some i=>
   have e':(match ρ[i]? with|some (some (.val d))=>some (S.val d)|_=>none)=some x:=Option.some.inj e;split at e'
   ·rename_i d hd;cases e';exact⟨i,d,rfl,hd,rfl⟩
   ·cases e'
theorem zC{K:KZ}{O:au}{H:Hp}{ρ:ak}{σ:St}(ix:dA)(E:b7 K O H ρ σ):b7 K O H (inB ix ρ) (inBlock ix σ):=by
 refine⟨λj d e=>?_,λj xs e=>?_,λj k xs ys a e=>?_,E.all⟩
 ·obtain⟨i,d',q1,q2,q3⟩:=jr e;cases q3;obtain⟨v,e1,e2⟩:=E.val i d q2;refine⟨v,?_,e2⟩;unfold inBlock;rw[IV,q1];show some ((σ[i]?).getD none)=some (some v);rw[e1];rfl
 ·obtain⟨_,_,_,_,q3⟩:=jr e;cases q3
 ·obtain⟨_,_,_,_,q3⟩:=jr e;cases q3
theorem eT{H:Hp}{O:au}{p:Ma}{o:HO}(hp:H p=none):aI (hid H O) (hid (upd H p o) (p::O)):=λb u h=>by
 unfold hid at h ⊢;by_cases hb:b∈O
 ·rw[if_pos hb]at h;cases h
 ·rw[if_neg hb]at h;have ne:=aP h hp;rw[if_neg (by intro z;rcases List.mem_cons.mp z with z|z;exact ne z;exact hb z),ai ne];exact h
theorem b7.hideNew{K:KZ}{O:au}{H:Hp}{ρ:ak}{σ:St}{p:Ma}{o:HO}(m:kF o)(E:b7 K O H ρ σ)(hp:H p=none):b7 K (p::O) (upd H p o) ρ σ:=by
 have s:aI (hid H O) (hid (upd H p o) (p::O)):=eT hp;refine⟨λi d e=>let ⟨v,a,b⟩:=E.val i d e;⟨v,a,b.mono s⟩,λi xs e=>?_,E.one,(E.all.same (aW hp o)).cons ah m⟩;obtain⟨a,e1,e2,e3⟩:=E.own i xs e;obtain⟨u,hu⟩:=e3.some;exact⟨a,e1,IC _ e2,e3.mono (by rw[ai (aP hu hp)]) s⟩
theorem b7.rewrite{K:KZ}{O:au}{H:Hp}{ρ:ak}{σ:St}{p:Ma}{o:HO}(m:kF o)(E:b7 K O H ρ σ)(hp:p∈O)(hs:∀(i:Nat) xs,ρ[i]?=some (some (.own xs))->σ[i]?≠some (some (.ref p))):b7 K O (upd H p o) ρ σ:=by
 have s:aI (hid H O) (hid (upd H p o) O):=dI hp;refine⟨λi d e=>let ⟨v,a,b⟩:=E.val i d e;⟨v,a,b.mono s⟩,λi xs e=>?_,E.one,E.all.upd hp m⟩;obtain⟨a,e1,e2,e3⟩:=E.own i xs e;have ne:a≠p:=λz=>hs i xs e (by rw[<-z];exact e1);exact⟨a,e1,e2,e3.mono (by rw[ai ne]) s⟩
theorem b7.forget{K:KZ}{O:au}{H:Hp}{ρ ρ':ak}{σ:St}(E:b7 K O H ρ σ)(h:∀(i:Nat) x,ρ'[i]?=some (some x)->ρ[i]?=some (some x)):b7 K O H ρ' σ:=
 ⟨λi d e=>E.val i d (h i _ e),λi xs e=>E.own i xs (h i _ e),λi j xs ys a e1 e2=>E.one i j xs ys a (h i _ e1) (h j _ e2),E.all⟩
noncomputable def Fills(ρ:ak)(g:GF):Prop:=∀d ρ1,g d ρ=some ρ1->∀(i:Nat) x,ρ[i]?=some (some x)->ρ1[i]?=some (some x)
theorem nh(ix:dA)(ρ:ak):∀(i:Nat) xs,(inB ix ρ)[i]?≠some (some (.own xs)):=by
 intro j xs e;obtain⟨_,_,_,_,q3⟩:=jr e;cases q3
theorem EJ{α:Type}{o:Option α}{a:α}(h:rO o=.ok a):o=some a:=by
 cases o with
 |none=>cases h
 |some b=>cases h;rfl
end TG
namespace TG
open PySem PySem.Spec L2
variable[aq]
section
variable{X:Cx}{elt tg iter:Mb}{ifs:aX}{scope:Mp}{pos:Pos}{N:ay}{ix:dA}{G:aN}{g:GF}{C:aY}{Fe:FX}
structure kW(ix:dA)(g:GF):Prop where
 fill:∀ρ,Fills (inB ix ρ) g
 own:∀ρ d ρ1,g d (inB ix ρ)=some ρ1->∀(i:Nat) xs,ρ1[i]?≠some (some (.own xs))
theorem qz{ρ:ak}{i:Nat}(h:ix[i]?=some none):∀x,(inB ix ρ)[i]?≠some (some x):=λx e=>by
 obtain⟨_,_,q,_⟩:=jr e;rw[h]at q;cases q
theorem hZ{i:Nat}(h:ix[i]?=some none):kW ix (gN i):=
  ⟨fun ρ d ρ1 e j x q=>by
    cases e;by_cases z:j=i
    ·subst z;exact absurd q (qz h x)
    ·unfold setV;rw[IH (Ne.symm z)];exact q,
   λρ d ρ1 e j xs q=>by
    cases e;rcases av q with⟨_,z⟩|⟨_,z⟩
    ·cases z
    ·exact nh ix ρ j xs z⟩
noncomputable def AR(ix:dA)(is:aT):Bool:=is.all λi=>match ix[i]? with
 |some none=>true
 |_=>false
noncomputable def kc:aT->v8
 |[]=>BR
 |i::is=>za (gN i) (kc is)
theorem sS:∀(is:aT)(ds:List D)(ρ ρ1:ak),kc is ds ρ=some ρ1->∀(k:Nat)(x:S),ρ1[k]?=some (some x)->(k∈is/\∃d,x=.val d)\/ρ[k]?=some (some x)
 |[],ds,ρ,ρ1,h,k,x,e=>by
  cases ds with
  |nil=>cases h;exact .inr e
  |cons _ _=>cases h
 |i::is,ds,ρ,ρ1,h,k,x,e=>by
  cases ds with
  |nil=>cases h
  |cons d ds=>
   rcases sS is ds (setV i d ρ) ρ1 h k x e with⟨a,b⟩|q
   ·exact .inl ⟨IC _ a,b⟩
   ·rcases av q with⟨z,w⟩|⟨_,w⟩
    ·exact .inl ⟨by rw[z];exact IB,d,Option.some.inj w⟩
    ·exact .inr w
theorem qp:∀(is:aT)(ds:List D)(ρ ρ1:ak),kc is ds ρ=some ρ1->∀(k:Nat)(x:S),k∉is->ρ[k]?=some (some x)->ρ1[k]?=some (some x)
 |[],ds,ρ,ρ1,h,k,x,_,e=>by
  cases ds with
  |nil=>cases h;exact e
  |cons _ _=>cases h
 |i::is,ds,ρ,ρ1,h,k,x,n,e=>by
  cases ds with
  |nil=>cases h
  |cons d ds=>
   refine qp is ds (setV i d ρ) ρ1 h k x (λz=>n (IC _ z)) ?_;unfold setV;rw[IH (λz=>n (by rw[z];exact IB))];exact e
theorem f7{is:aT}{n:Nat}(h:AR ix is=true):kW ix (gT n (kc is)):=by
 have hn:∀i∈is,ix[i]?=some none:=λi hi=>by
  have:=List.all_eq_true.mp h i hi
  cases e:ix[i]? with
  |none=>rw[e]at this;cases this
  |some o=>cases o with
   |none=>rfl
   |some _=>rw[e]at this;cases this
 have shape:∀ρ d ρ1,gT n (kc is) d ρ=some ρ1->∃ds,kc is ds ρ=some ρ1:=λρ d ρ1 e=>by
  cases d with
  |tup xs=>
   have e':(if xs.length=n then kc is xs ρ else none)=some ρ1:=e;by_cases hl:xs.length=n
   ·rw[if_pos hl]at e';exact⟨xs,e'⟩
   ·rw[if_neg hl]at e';cases e'
  |_=>cases e
 refine⟨λρ d ρ1 e k x q=>?_,λρ d ρ1 e k xs q=>?_⟩
 ·obtain⟨ds,e⟩:=shape _ d ρ1 e;exact qp is ds _ ρ1 e k x (λz=>qz (hn k z) x q) q
 ·obtain⟨ds,e⟩:=shape _ d ρ1 e;rcases sS is ds _ ρ1 e k _ q with⟨_,d,z⟩|z
  ·cases z
  ·exact nh ix ρ k xs z
structure iQ(X:Cx)(scope:Mp)(N:ay)(ix:dA):Prop where
 cell:∀y∈scope.names,y.2≠.cell
 kind:scope.kind=.function
 names:∀y∈scope.names,y.2=.local->scope.names.lookup y.1=some .local
 free:∀y∈scope.names,y.2=.free->X.env.scope.names.lookup y.1=some .cell\/X.env.scope.names.lookup y.1=some .free
 ix:o8 X.N N scope.names ix=true
noncomputable def fT(XS:lF)(XN:ay)(scope:Mp)(N:ay)(ix:dA):Bool:=
 scope.names.all (λy=>decide (y.2≠.cell))&&decide (scope.kind=.function)&&scope.names.all (λy=>decide (y.2≠.local)||decide (scope.names.lookup y.1=some .local)) &&
  scope.names.all (λy=>decide (y.2≠.free)||(decide (XS.lookup y.1=some .cell)||decide (XS.lookup y.1=some .free)))&&o8 XN N scope.names ix
theorem iQ.of(h:fT X.env.scope.names X.N scope N ix=true):iQ X scope N ix:=by
 unfold fT at h;simp only[Jc]at h;obtain⟨⟨⟨⟨h1,h2⟩,h3⟩,h4⟩,h5⟩:=h;refine⟨λy hy=>of_decide_eq_true (List.all_eq_true.mp h1 y hy),of_decide_eq_true h2,λy hy e=>?_,λy hy e=>?_,h5⟩
 ·rcases JD _ _ ▸ List.all_eq_true.mp h3 y hy with q|q
  ·exact absurd e (of_decide_eq_true q)
  ·exact of_decide_eq_true q
 ·rcases JD _ _ ▸ List.all_eq_true.mp h4 y hy with q|q
  ·exact absurd e (of_decide_eq_true q)
  ·rcases JD _ _ ▸ q with q|q
   ·exact .inl (of_decide_eq_true q)
   ·exact .inr (of_decide_eq_true q)
noncomputable def HG(X:Cx)(scope:Mp)(N:ay)(tg elt:Mb)(ifs:aX)(g:GF)(C:aY)(Fe:FX):Prop:=
 ∀cl C' fp s H E,FG (bf X scope N cl C' fp s H E) tg g/\Hg (bf X scope N cl C' fp s H E) ifs C/\FE (bf X scope N cl C' fp s H E) elt Fe
noncomputable def AH(K:KZ)(F:aY):TT:=λσ H Q=>∃O ρ b,b7 K O H ρ σ/\F ρ=.ok b/\∀H',aI H H'->Q b H'
noncomputable def GN(K:KZ)(F:FX):TE:=λσ H Q=>∃O ρ d,b7 K O H ρ σ/\F ρ=.ok d/\∀v H',aI H H'->bv K (hid H' O) d v->Q v H'
theorem HG.k(hb:HG X scope N tg elt ifs g C Fe):∀cl C' fp s H E,PG (bf X scope N cl C' fp s H E) tg (Ez X.K g)/\DF (bf X scope N cl C' fp s H E) ifs (AH X.K C)/\PE (bf X scope N cl C' fp s H E) elt (GN X.K Fe):=λcl C' fp s H E=>by
 obtain⟨h1,h2,h3⟩:=hb cl C' fp s H E;refine⟨h1,λpins s σ H Q I zq=>zq.elim λO zq=>zq.elim λρ zq=>zq.elim λb zq=>zq.elim λe1 zq=>zq.elim λe2 q=>h2 pins s σ H Q I ⟨O,ρ,e1,by rw[e2];exact q⟩,λpins s σ H Q I zq=>zq.elim λO zq=>zq.elim λρ zq=>zq.elim λd zq=>zq.elim λe1 zq=>zq.elim λe2 q=>h3 pins s σ H Q I ⟨O,ρ,e1,by rw[e2];exact q⟩⟩
noncomputable def Hi(X:Cx)(F:FX):TE:=λσ H Q=>∃O ρ,b7 X.K O H ρ σ/\gk X σ O H (F ρ) λd=>∀D H' total acc,d=.lst total->aI H H'->H D=none->H' D=some (.lst acc)->ax X.K (hid H' (D::O)) total acc->Q (.ref D) H'
theorem Hz{F:FX}:∀σ H Q,tF X F σ H Q->Hi X F σ H Q:=λσ H Q zq=>zq.elim λO zq=>zq.elim λρ zq=>zq.elim λE hF=>⟨O,ρ,E,hF.imp λd q D H' total acc e sm hD hD' dn=>by
 subst e;have DO:D∉O:=E.all.not hD;exact q _ H' sm (bn.mpr ⟨D,acc,rfl,jG.of (by rw[cQ DO];exact hD'),dn.mono (gx λa ha=>IC _ ha)⟩)⟩
theorem wK(tk:kW ix g):∀σ H Q,Hi X (fW ix G g C Fe) σ H Q->Gb (Gp X G) (Ez X.K g) (AH X.K C) (GN X.K Fe) ix σ H Q:=λσ H Q zq=>zq.elim λO zq=>zq.elim λρ zq=>zq.elim λE hF=>by
 refine⟨O,ρ,E,(gk.bind hF).imp λds hF=>?_⟩;have hz:small ds.length=true:=by
  cases e:small ds.length with
  |true=>rfl
  |false=>rw[e]at hF;exact hF.elim
 rw[hz,if_pos rfl]at hF;cases hL:ri (inB ix ρ) g C Fe ds with
 |error z=>rw[hL]at hF;exact hF.elim
 |ok total=>
 rw[hL]at hF;have q:∀D H' total' acc,TG.D.lst total=.lst total'->aI H H'->H D=none->H' D=some (.lst acc)->ax X.K (hid H' (D::O)) total' acc->Q (.ref D) H':=hF;have e2:=hL;have hfill:=tk.fill;have hown:=tk.own;refine λJ H1 s1 wk D hD=>?_;have E1:b7 X.K (D::O) (upd H1 D (.lst [])) (inB ix ρ) (inBlock ix σ):=((zC ix E).same s1).hideNew trivial hD;have DO:D∉O:=(E.all.same s1).not hD;refine⟨λi m σ' H'=>m=ds.length-i/\i<=ds.length/\aI H1 H'/\b7 X.K (D::O) H' (inB ix ρ) σ'/\∃acc dn rest,H' D=some (.lst acc)/\acc.length<=i/\ax X.K (hid H' (D::O)) dn acc/\ri (inB ix ρ) g C Fe (ds.drop i)=.ok rest/\dn++rest=total,
  ⟨ds.length,by rw[JM],Jq _,aW hD _,E1,[],[],total,ah,IJ _,bB.mpr rfl,by rw[Jx];exact e2,rfl⟩,?_⟩
 rintro i m σ' H' ⟨rfl,hi,sm,E',acc,dn,rest,hacc,hlen,hdn,hrest,htot⟩;have sH:aI (hid H1 O) (hid H' (D::O)):=λb o h=>by
  have h2:=sm b o (aj H1 O b o h);unfold hid at h ⊢;by_cases hb:b∈O
  ·rw[if_pos hb]at h;cases h
  ·rw[if_neg hb]at h;have ne:b≠D:=aP h hD;rw[if_neg (by intro z;rcases List.mem_cons.mp z with z|z;exact ne z;exact hb z)];exact h2
 by_cases hlt:i<ds.length
 ·right;obtain⟨go,yl⟩:=(wk H' (D::O) i E'.all sH).1 ds[i] (by simp[hlt]);refine⟨go,λx H2 y=>?_⟩;obtain⟨s2,dx'⟩:=yl x H2 y;have E':=E'.same s2;have sm:=sm.trans s2;have hacc:=s2 _ _ hacc;have hdn:=hdn.mono (aM s2);rw[JO hlt,mB]at hrest;obtain⟨ρ1,g1,hrest⟩:=lm hrest;have g1:=EJ g1;obtain⟨c,c1,hrest⟩:=lm hrest;have c1:=yr c1;refine⟨D::O,inB ix ρ,ds[i],ρ1,E',dx',g1,λσ3 E3 _=>?_⟩;refine⟨D::O,ρ1,c,E3,c1,λH4 s4=>?_⟩;have E4:=E3.same s4;have back:∀{H5:Hp},b7 X.K (D::O) H5 ρ1 σ3->b7 X.K (D::O) H5 (inB ix ρ) σ3:=λz=>z.forget λj x e=>hfill ρ _ _ g1 j x e;cases c with
  |true=>
   refine uF ?_;rw[if_pos rfl]at hrest;obtain⟨v,v1,hrest⟩:=lm hrest;have v1:=yr v1;obtain⟨r,r1,hrest⟩:=lm hrest;cases hrest;refine⟨D::O,ρ1,v,E4,v1,λw H5 s5 dw=>?_⟩;have s45:=s4.trans s5;have ha5:H5 D=some (.lst acc):=s45 _ _ hacc;have hzl:ds.length<Mk:=JP (of_decide_eq_true hz) (by decide);refine⟨acc,ha5,by omega,ds.length-(i+1),by omega,rfl,hlt,?_,?_,acc++[w],dn++[v],r,ah,by rw[IY,Je];omega,?_,r1,by rw[JQ];exact htot⟩
   ·intro b o h;rw[ai (aP h hD)];exact s45 _ _ (sm _ _ h)
   ·exact back ((E3.same s45).rewrite trivial IB λj xs e=>absurd e (hown ρ _ _ g1 j xs))
   ·have s6:aI (hid H5 (D::O)) (hid (upd H5 D (.lst (acc++[w]))) (D::O)):=dI IB;exact(hdn.mono ((aM s45).trans s6)).snoc (dw.mono s6)
  |false=>
   refine yK ?_;rw[if_neg II]at hrest;exact⟨ds.length-(i+1),by omega,rfl,hlt,sm.trans s4,back E4,acc,dn,rest,s4 _ _ hacc,by omega,hdn.mono (aM s4),hrest,htot⟩
 ·left;have ei:i=ds.length:=by omega
  subst ei;refine⟨(wk H' (D::O) ds.length E'.all sH).2 rfl,?_⟩;rw[JR]at hrest;cases hrest;rw[IM]at htot;subst htot;exact q D H' _ acc rfl (s1.trans sm) (s1.free hD) hacc hdn
theorem B2(tk:kW ix g):∀σ H Q,tF X (fW ix G g C Fe) σ H Q->Gb (Gp X G) (Ez X.K g) (AH X.K C) (GN X.K Fe) ix σ H Q:=λσ H Q h=>wK tk σ H Q (Hz σ H Q h)
end
structure Ks where
 nx:ak->R D
 bk:ak->R D:=λ_=>un
 ct:ak->R D:=λ_=>un
 ex:Ex->ak->R D:=λx _=>.error (some x)
noncomputable abbrev bG:=Ks->ak->R D
noncomputable def kS{α:Type}(r:R α)(k:Ks)(ρ:ak)(f:α->R D):R D:=match r with
 |.ok a=>f a
 |.error (some x)=>k.ex x ρ
 |.error none=>un
structure Base(Hb:Hp)(Ob:au)(H:Hp)(O:au):Prop where
 same:aI Hb H
 sub:∀a∈Ob,a∈O
 new:∀a∈O,a∈Ob\/Hb a=none
noncomputable def lK(K:KZ)(H:Hp)(O:au):au->List D->Prop
 |[],[]=>True
 |b::bs,x::xs=>bT K H O b x/\lK K H O bs xs
 |_,_=>False
noncomputable def pS(K:KZ)(H:Hp)(O:au)(a:Ma)(bs:au)(d:D):Prop:=
 ∃xs,lK K H O bs xs/\((d=.lst xs/\H a=some (.lst (bs.map .ref)))\/(∃kvs:List (List Key×V),d=.dct (kvs.map λp=>.tup (p.1.map aJ)) xs/\H a=some (.dT kvs)/\kvs.map (·.2)=bs.map .ref)\/(d=.dct [] xs/\bs=[]/\H a=some (.dK [])))
noncomputable def uA(K:KZ)(Hb:Hp)(Ob O:au)(H:Hp)(ρ:ak)(σ:St)(i:Nat)(d:D):Prop:=
 ∃a bs,σ[i]?=some (some (.ref a))/\pS K H O a bs d/\(a::bs).Nodup/\(∀b∈a::bs,b∈O/\Hb b=none/\b∉Ob/\∀(j:Nat) d',ρ[j]?=some (some (.own d'))->σ[j]?≠some (some (.ref b)))/\∀(j:Nat) d',ρ[j]?=some (some (.nest d'))->j=i
theorem lK.mono{K:KZ}{H H':Hp}{O O':au}(s:aI (hid H O) (hid H' O')):∀{bs:au}{xs:List D},lK K H O bs xs->(∀b∈bs,(∃o,H b=some o)->H' b=H b)->lK K H' O' bs xs
 |[],[],_,_=>trivial
 |b::bs,x::xs,h,e=>⟨h.1.mono (e b IB h.1.some).symm s,lK.mono s h.2 λb' hb=>e b' (IC _ hb)⟩
 |[],_::_,h,_=>h.elim
 |_::_,[],h,_=>h.elim
theorem lK.some{K:KZ}{H:Hp}{O:au}:∀{bs:au}{xs:List D},lK K H O bs xs->∀b∈bs,∃o,H b=some o
 |[],_,_,_,hb=>nomatch hb
 |b::bs,x::xs,h,b',hb=>by
  rcases List.mem_cons.mp hb with z|z
  ·rw[z];exact h.1.some
  ·exact lK.some h.2 b' z
 |_::_,[],h,_,_=>h.elim
theorem pS.some{K:KZ}{H:Hp}{O:au}{a:Ma}{bs:au}{d:D}(h:pS K H O a bs d):∀b∈a::bs,∃o,H b=some o:=λb hb=>by
 obtain⟨xs,h1,h2⟩:=h;rcases List.mem_cons.mp hb with z|z
 ·rw[z];rcases h2 with⟨_,q⟩|⟨_,_,q,_⟩|⟨_,_,q⟩<;>exact⟨_,q⟩
 ·exact h1.some b z
theorem pS.mono{K:KZ}{H H':Hp}{O O':au}{a:Ma}{bs:au}{d:D}(h:pS K H O a bs d)(s:aI (hid H O) (hid H' O'))(e:∀b∈a::bs,(∃o,H b=Option.some o)->H' b=H b):pS K H' O' a bs d:=by
 have ea:=e a IB (h.some a IB);obtain⟨xs,h1,h2⟩:=h;refine⟨xs,h1.mono s λb hb=>e b (IC _ hb),?_⟩;rw[ea];exact h2
theorem uA.to{K:KZ}{Hb Hb':Hp}{Ob O O':au}{H H':Hp}{ρ ρ':ak}{σ σ':St}{i:Nat}{d:D}(h:uA K Hb Ob O H ρ σ i d)(hσ:σ'[i]?=σ[i]?)(s:aI (hid H O) (hid H' O'))
  (k:∀b,b∈O->Hb b=none->b∉Ob->(∀(j:Nat) d',ρ[j]?=some (some (.own d'))->σ[j]?≠some (some (.ref b)))->(∃o,H b=some o)->H' b=H b/\b∈O'/\Hb' b=none/\∀(j:Nat) d',ρ'[j]?=some (some (.own d'))->σ'[j]?≠some (some (.ref b)))
  (n:∀(j:Nat) d',ρ'[j]?=some (some (.nest d'))->∃d2,ρ[j]?=some (some (.nest d2))):uA K Hb' Ob O' H' ρ' σ' i d:=by
 obtain⟨a,bs,h1,h2,h3,h4,h5⟩:=h;refine⟨a,bs,hσ.trans h1,h2.mono s λb hb ho=>?_,h3,λb hb=>?_,λj d' q=>?_⟩
 ·obtain⟨q1,q2,q3,q4⟩:=h4 b hb;exact(k b q1 q2 q3 q4 ho).1
 ·obtain⟨q1,q2,q3,q4⟩:=h4 b hb;obtain⟨_,w2,w3,w4⟩:=k b q1 q2 q3 q4 (h2.some b hb);exact⟨w2,w3,q3,w4⟩
 ·obtain⟨d2,q⟩:=n j d' q;exact h5 j d2 q
structure bx(K:KZ)(Hb:Hp)(Ob O:au)(H:Hp)(ρ:ak)(σ:St):Prop where
 env:b7 K O H ρ σ
 base:Base Hb Ob H O
 mine:∀(i:Nat) xs a,ρ[i]?=some (some (.own xs))->σ[i]?=some (some (.ref a))->Hb a=none/\a∉Ob
 nst:∀(i:Nat) d,ρ[i]?=some (some (.nest d))->uA K Hb Ob O H ρ σ i d
theorem Base.same'{Hb:Hp}{Ob:au}{H H':Hp}{O:au}(b:Base Hb Ob H O)(s:aI H H'):Base Hb Ob H' O:=⟨b.same.trans s,b.sub,b.new⟩
theorem bx.same{K:KZ}{Hb:Hp}{Ob O:au}{H H':Hp}{ρ:ak}{σ:St}(h:bx K Hb Ob O H ρ σ)(s:aI H H'):bx K Hb Ob O H' ρ σ:=⟨h.env.same s,h.base.same' s,h.mine,λi d q=>(h.nst i d q).to rfl (aM s) (λb q1 q2 q3 q4 zq=>zq.elim λo ho=>⟨by rw[ho,s _ _ ho],q1,q2,q4⟩) λj d' z=>⟨d',z⟩⟩
theorem bx.after{K:KZ}{Hb:Hp}{Ob O:au}{H:Hp}{ρ ρ':ak}{σ σ':St}(S:bx K Hb Ob O H ρ σ)(E':b7 K O H ρ' σ')(own:∀(i:Nat) x,ρ'[i]?=some (some x)->(∀d,x≠.val d)->σ'[i]?=σ[i]?/\ρ[i]?=some (some x)):bx K Hb Ob O H ρ' σ':=
 ⟨E',S.base,fun i xs a q1 q2=>by
  obtain⟨w1,w2⟩:=own i _ q1 (λ_ z=>nomatch z);rw[w1]at q2;exact S.mine i xs a w2 q2,λi d q=>by
  obtain⟨w1,w2⟩:=own i _ q (λ_ z=>nomatch z);refine(S.nst i d w2).to w1 (λ_ _ z=>z) (λb q1 q2 q3 q4 _=>⟨rfl,q1,q2,λl d' w=>?_⟩) λl d' w=>⟨d',(own l _ w (λ_ z=>nomatch z)).2⟩
  obtain⟨z1,z2⟩:=own l _ w (λ_ z=>nomatch z);rw[z1];exact q4 l d' z2⟩
structure Gc(X:Cx)(Hb:Hp)(Ob:au)(E:Ends)(k:Ks)(r:R D):Prop where
 ne:r≠un
 nx:∀O ρ σ H,bx X.K Hb Ob O H ρ σ->k.nx ρ=r->E.nx σ H
 bk:∀O ρ σ H,bx X.K Hb Ob O H ρ σ->k.bk ρ=r->E.bk σ H
 ct:∀O ρ σ H,bx X.K Hb Ob O H ρ σ->k.ct ρ=r->E.ct σ H
 rt:∀d O v H,r=.ok d->Base Hb Ob H O->bv X.K (hid H O) d v->E.rt v H
 ex:∀O ρ σ H x,bx X.K Hb Ob O H ρ σ->k.ex x ρ=r->B8 X σ O H x
noncomputable def Gg(X:Cx)(Hb:Hp)(Ob:au)(F:bG):TS:=λE σ H=>∃O ρ k r,bx X.K Hb Ob O H ρ σ/\F k ρ=r/\Gc X Hb Ob E k r
noncomputable def FS(X:Cx)(st:Md)(F:bG):Prop:=∀Hb Ob,PS X st (Gg X Hb Ob F)
noncomputable def Gf(X:Cx)(st:cq)(F:bG):Prop:=∀Hb Ob,o4 X st (Gg X Hb Ob F)
theorem gk.on{X:Cx}{Hb:Hp}{Ob O:au}{H:Hp}{ρ:ak}{σ:St}{E:Ends}{k:Ks}{r:R D}{α:Type}{fr:R α}{G:α->R D}{Q:α->Prop}(h:kS fr k ρ G=r)(hk:Gc X Hb Ob E k r)(S:bx X.K Hb Ob O H ρ σ)(q:∀a,G a=r->Q a):gk X σ O H fr Q:=by
 match fr,h with
 |.ok a,h=>exact q a h
 |.error (some x),h=>exact hk.ex O ρ σ H x S h
 |.error none,h=>exact absurd h.symm hk.ne
section
variable{X:Cx}{st:Md}{rest body:cq}{pos:Pos}
noncomputable def bj:bG:=λk ρ=>k.nx ρ
noncomputable def aA(F1 F2:bG):bG:=λk ρ=>F1 {k with nx:=F2 k} ρ
noncomputable def cm(f:FX):bG:=λk ρ=>kS (f ρ) k ρ .ok
noncomputable def EK:bG:=λ_ _=>.ok .non
noncomputable def i7(c:aY)(A B:bG):bG:=λk ρ=>kS (c ρ) k ρ λb=>if b then A k ρ else B k ρ
noncomputable def bF(i:Nat)(f:FX):bG:=λk ρ=>kS (f ρ) k ρ λd=>k.nx (setV i d ρ)
theorem bx.setV{K:KZ}{Hb:Hp}{Ob O:au}{H:Hp}{ρ:ak}{σ:St}(E:bx K Hb Ob O H ρ σ){i:Nat}{d:D}{v:V}(hi:i<σ.length)(hd:bv K (hid H O) d v):bx K Hb Ob O H (setV i d ρ) (σ.set i (some v)):=
  ⟨E.env.setV hi hd,E.base,fun j xs a e1 e2=>by
    rcases av e1 with⟨_,q⟩|⟨ne,q⟩
    ·cases q
    · rw[IH (Ne.symm ne)]at e2
      exact E.mine j xs a q e2,
   λj dn e=>by
    rcases av e with⟨_,q⟩|⟨ne,q⟩
    ·cases q
    · refine(E.nst j dn q).to (IH (Ne.symm ne)) (λ_ _ z=>z) (λb q1 q2 q3 q4 _=>⟨rfl,q1,q2,λl d' w=>?_⟩) λl d' w=>?_
      · rcases av w with⟨_,z⟩|⟨nl,z⟩
        ·cases z
        ·rw[IH (Ne.symm nl)];exact q4 l d' z
      · rcases av w with⟨_,z⟩|⟨_,z⟩
        ·cases z
        ·exact⟨d',z⟩⟩
theorem nU{f:FX}{i:Nat}(hi:i<X.N.length)(h:PS X st (wG (tF X f) (n9 i))):FS X st (bF i f):=λHb Ob pins s σ H E I zq=>zq.elim λO zq=>zq.elim λρ zq=>zq.elim λk zq=>zq.elim λr zq=>zq.elim λS zq=>zq.elim λhF hk=>
 h pins s σ H E I ⟨O,ρ,S.env,gk.on hF hk S λd e v H1 s1 d1=>hk.nx O _ _ H1 ((S.same s1).setV (by rw[I.len];exact hi) d1) e⟩
noncomputable def zy(f:FX)(g:GF):bG:=λk ρ=>kS (f ρ) k ρ λd=>(rO (g d ρ)).bind k.nx
noncomputable def kill(is:aT)(ρ:ak):ak:=is.foldl (λρ i=>ρ.set i none) ρ
theorem eY:∀(is:aT)(ρ:ak)(i:Nat)(x:S),(kill is ρ)[i]?=some (some x)->ρ[i]?=some (some x)
 |[],ρ,i,x,e=>e
 |j::is,ρ,i,x,e=>by
  rcases av (eY is (ρ.set j none) i x e)with⟨_,q⟩|⟨_,q⟩
  ·cases q
  ·exact q
theorem bx.kill{K:KZ}{Hb:Hp}{Ob O:au}{H:Hp}{ρ:ak}{σ:St}(E:bx K Hb Ob O H ρ σ)(is:aT):bx K Hb Ob O H (kill is ρ) σ:=
 ⟨E.env.forget (eY is ρ),E.base,λi xs a e1 e2=>E.mine i xs a (eY is ρ i _ e1) e2,λi d q=>(E.nst i d (eY is ρ i _ q)).to rfl (λ_ _ z=>z) (λb q1 q2 q3 q4 _=>⟨rfl,q1,q2,λl d' w=>q4 l d' (eY is ρ l _ w)⟩) λl d' w=>⟨d',eY is ρ l _ w⟩⟩
noncomputable def bI(is:aT)(F:bG):bG:=λk ρ=>F k (kill is ρ)
end
noncomputable def dg(g:GF)(B:bG)(k:Ks):List D->ak->R D
 |[],ρ=>k.nx ρ
 |d::ds,ρ=>(rO (g d ρ)).bind λρ1=>B ⟨dg g B k ds,k.nx,dg g B k ds,k.ex⟩ ρ1
noncomputable def jS(G:aN)(g:GF)(B:bG):bG:=λk ρ=>kS (G ρ) k ρ λds=>dg g B k ds ρ
noncomputable def lb(H:Hp)(O Ob:au):Hp:=λb=>if b∈O/\b∉Ob then none else H b
theorem oZ{H:Hp}{O Ob:au}{b:Ma}(h1:b∈O)(h2:b∉Ob):lb H O Ob b=none:=by unfold lb;rw[if_pos ⟨h1,h2⟩]
theorem AA{H:Hp}{O Ob:au}{b:Ma}{o:HO}(h:lb H O Ob b=some o):H b=some o/\¬(b∈O/\b∉Ob):=by
 unfold lb at h;split at h
 ·cases h
 ·rename_i n;exact⟨h,n⟩
theorem xF{H:Hp}{O Ob:au}{b:Ma}{o:HO}(h:H b=some o)(n:¬(b∈O/\b∉Ob)):lb H O Ob b=some o:=by unfold lb;rw[if_neg n];exact h
theorem Base.loop{Hb:Hp}{Ob:au}{H:Hp}{O:au}(b:Base Hb Ob H O):Base (lb H O Ob) Ob H O:=
 ⟨fun c o h=>(AA h).1,b.sub,fun a ha=>by
  by_cases h:a∈Ob
  ·exact .inl h
  ·exact .inr (oZ ha h)⟩
theorem Base.back{Hb:Hp}{Ob:au}{H H':Hp}{O O':au}(b:Base Hb Ob H O)(b':Base (lb H O Ob) Ob H' O'):Base Hb Ob H' O':=by
 have up:aI Hb (lb H O Ob):=λc o h=>xF (b.same c o h) λzq=>zq.elim λz1 z2=>by
  rcases b.new c z1 with z|z
  ·exact z2 z
  ·rw[z]at h;cases h
 exact⟨up.trans b'.same,b'.sub,λa ha=>(b'.new a ha).imp id up.free⟩
theorem bx.loop{K:KZ}{Hb:Hp}{Ob O:au}{H:Hp}{ρ:ak}{σ:St}(E:bx K Hb Ob O H ρ σ):bx K (lb H O Ob) Ob O H ρ σ:=
 ⟨E.env,E.base.loop,fun i xs a e1 e2=>by
  obtain⟨_,n⟩:=E.mine i xs a e1 e2;obtain⟨a',e3,e4,_⟩:=E.env.own i xs e1;rw[e2]at e3;cases e3;exact⟨oZ e4 n,n⟩,λi d q=>(E.nst i d q).to rfl (λ_ _ z=>z) (λb q1 q2 q3 q4 _=>⟨rfl,q1,oZ q1 q3,q4⟩) λl d' w=>⟨d',w⟩⟩
theorem bx.back{K:KZ}{Hb:Hp}{Ob O O':au}{H H':Hp}{ρ':ak}{σ':St}(b:Base Hb Ob H O)(E:bx K (lb H O Ob) Ob O' H' ρ' σ'):bx K Hb Ob O' H' ρ' σ':=
 have up:aI Hb (lb H O Ob):=λc o h=>xF (b.same c o h) λzq=>zq.elim λz1 z2=>by
  rcases b.new c z1 with z|z
  ·exact z2 z
  ·rw[z]at h;cases h
 ⟨E.env,b.back E.base,fun i xs a e1 e2=>by
  obtain⟨z,n⟩:=E.mine i xs a e1 e2;exact⟨up.free z,n⟩,λi d q=>(E.nst i d q).to rfl (λ_ _ z=>z) (λb q1 q2 q3 q4 _=>⟨rfl,q1,up.free q2,q4⟩) λl d' w=>⟨d',w⟩⟩
theorem ye{Hb:Hp}{Ob O O':au}{H H':Hp}(b:Base Hb Ob H O)(b':Base (lb H O Ob) Ob H' O'):aI (hid H O) (hid H' O'):=λc o h=>by
 unfold hid at h ⊢;by_cases hc:c∈O
 ·rw[if_pos hc]at h;cases h
 ·rw[if_neg hc]at h;have h1:lb H O Ob c=some o:=xF h λz=>hc z.1;rw[if_neg]
  ·exact b'.same _ _ h1
  ·intro z;rcases b'.new c z with z|z
   ·exact hc (b.sub c z)
   ·rw[h1]at z;cases z
theorem Gc.loop{X:Cx}{Hb:Hp}{Ob O:au}{H:Hp}{E E':Ends}{k k':Ks}{r:R D}(hk:Gc X Hb Ob E k r)(b:Base Hb Ob H O)(hn:∀O' ρ' σ' H',bx X.K (lb H O Ob) Ob O' H' ρ' σ'->k'.nx ρ'=r->E'.nx σ' H')(hc:∀O' ρ' σ' H',bx X.K (lb H O Ob) Ob O' H' ρ' σ'->k'.ct ρ'=r->E'.ct σ' H')
    (eb:k'.bk=k.nx) (ee:k'.ex=k.ex) (Eb:E'.bk=E.nx) (Er:E'.rt=E.rt):Gc X (lb H O Ob) Ob E' k' r:=
  ⟨hk.ne,hn,fun O' ρ' σ' H' S e=>by rw [Eb]; exact hk.nx O' ρ' σ' H' (S.back b) (by rw [<- eb]; exact e),hc,fun d O' v H' e b' dv=>by rw [Er]; exact hk.rt d O' v H' e (b.back b') dv,
   λO' ρ' σ' H' x S e=>hk.ex O' ρ' σ' H' x (S.back b) (by rw[<-ee];exact e)⟩
section
variable{X:Cx}{st:Md}{rest body:cq}{pos:Pos}
noncomputable def cP(c:aY)(B:bG)(k:Ks):Nat->ak->R D
 |0,_=>un
 |n+1,ρ=>kS (c ρ) k ρ λb=>if b then B ⟨cP c B k n,k.nx,cP c B k n,k.ex⟩ ρ else k.nx ρ
noncomputable def oE(n:Nat)(c:aY)(B:bG):bG:=λk ρ=>cP c B k n ρ
end
end TG
namespace TG
open PySem PySem.Spec L2
variable[aq]
theorem bx.setO{K:KZ}{Hb:Hp}{Ob O:au}{H:Hp}{ρ:ak}{σ:St}(E:bx K Hb Ob O H ρ σ){i:Nat}{d d':D}{a:Ma}{o:HO}(hi:ρ[i]?=some (some (.own d)))(ha:σ[i]?=some (some (.ref a)))(m:kF o)(new:bT K (upd H a o) O a d'):
  bx K Hb Ob O (upd H a o) (ρ.set i (some (.own d'))) σ:=by
 obtain⟨a',ha',haO,hat⟩:=E.env.own i d hi;rw[ha]at ha';cases ha';obtain⟨m1,m2⟩:=E.mine i d a hi ha;have s:aI (hid H O) (hid (upd H a o) O):=dI haO;have own:∀(j:Nat) ys,(ρ.set i (some (.own d')))[j]?=some (some (.own ys))->∃ys',ρ[j]?=some (some (.own ys')):=λj ys q=>by
  rcases av q with⟨hj,_⟩|⟨_,q⟩
  ·rw[hj];exact⟨d,hi⟩
  ·exact⟨ys,q⟩
 refine⟨⟨λj d1 e=>?_,λj ys e=>?_,λj l ys zs b q1 q2 q3 q4=>?_,E.env.all.upd haO m⟩,⟨λb u h=>?_,E.base.sub,E.base.new⟩,λj ys b q1 q2=>?_,λj dn q=>?_⟩
 ·rcases av e with⟨_,q⟩|⟨ne,q⟩
  ·cases q
  ·obtain⟨w,q1,q2⟩:=E.env.val j d1 q;exact⟨w,q1,q2.mono s⟩
 ·rcases av e with⟨hj,q⟩|⟨ne,q⟩
  ·cases q;rw[hj];exact⟨a,ha,haO,new⟩
  ·obtain⟨b,q1,q2,q3⟩:=E.env.own j ys q;have nb:b≠a:=λz=>ne (E.env.one j i ys d a q hi (by rw[<-z];exact q1) ha);exact⟨b,q1,q2,q3.mono (by rw[ai nb]) s⟩
 ·obtain⟨_,q1'⟩:=own j ys q1;obtain⟨_,q2'⟩:=own l zs q2;exact E.env.one j l _ _ b q1' q2' q3 q4
 ·have nb:b≠a:=λz=>by rw[z,m1]at h;cases h
  rw[ai nb];exact E.base.same b u h
 ·obtain⟨ys',q⟩:=own j ys q1;exact E.mine j ys' b q q2
 ·have q:ρ[j]?=some (some (.nest dn)):=by
   rcases av q with⟨_,z⟩|⟨_,z⟩
   ·cases z
   ·exact z
  refine(E.nst j dn q).to rfl s (λb q1 q2 q3 q4 _=>⟨ai λz=>q4 i d hi (by rw[z];exact ha),q1,q2,λl d1 w=>?_⟩) λl d1 w=>?_
  ·obtain⟨_,w'⟩:=own l d1 w;exact q4 l _ w'
  ·rcases av w with⟨_,z⟩|⟨_,z⟩
   ·cases z
   ·exact⟨d1,z⟩
theorem bx.setNew{K:KZ}{Hb:Hp}{Ob O:au}{H H':Hp}{ρ:ak}{σ:St}(E:bx K Hb Ob O H ρ σ){i:Nat}{d:D}{p:Ma}(hi:i<σ.length)(sm:aI H H')(hp:H p=none)(m:∃o,H' p=some o/\kF o)(new:bT K H' (p::O) p d):
  bx K Hb Ob (p::O) H' (ρ.set i (some (.own d))) (σ.set i (some (.ref p))):=by
 have hpO:p∉O:=E.env.all.not hp;have s:aI (hid H O) (hid H' (p::O)):=λb o h=>by
  unfold hid at h ⊢;by_cases hb:b∈O
  ·rw[if_pos hb]at h;cases h
  ·rw[if_neg hb]at h;have ne:=aP h hp;rw[if_neg (by intro z;rcases List.mem_cons.mp z with z|z;exact ne z;exact hb z)];exact sm _ _ h
 have other:∀(j:Nat) xs,ρ[j]?=some (some (.own xs))->σ[j]?≠some (some (.ref p)):=λj xs e z=>by
  obtain⟨a,e1,e2,e3⟩:=E.env.own j xs e;rw[z]at e1;cases e1;obtain⟨o,e3⟩:=e3.some;rw[hp]at e3;cases e3
 refine⟨⟨λj d' e=>?_,λj xs e=>?_,λj k xs ys a e1 e2 e3 e4=>?_,⟨(E.env.all.same sm).1,λa ha=>?_⟩⟩,⟨E.base.same.trans sm,λa ha=>IC _ (E.base.sub a ha),λa ha=>?_⟩,λj xs a e1 e2=>?_,λj dn e=>?_⟩
 ·rcases av e with⟨_,q⟩|⟨ne,q⟩
  ·cases q
  ·obtain⟨v,q1,q2⟩:=E.env.val j d' q;exact⟨v,by rw[IH (Ne.symm ne)];exact q1,q2.mono s⟩
 ·rcases av e with⟨hj,q⟩|⟨ne,q⟩
  ·cases q;rw[hj];exact⟨p,IG hi,IB,new⟩
  ·obtain⟨a,q1,q2,q3⟩:=E.env.own j xs q;obtain⟨o,ho⟩:=q3.some;exact⟨a,by rw[IH (Ne.symm ne)];exact q1,IC _ q2,q3.mono (iS sm ho) s⟩
 ·rcases av e1 with⟨hj,q1⟩|⟨nj,q1⟩
  ·rcases av e2 with⟨hk,q2⟩|⟨nk,q2⟩
   ·exact hj.trans hk.symm
   ·rw[hj,IG hi]at e3;cases e3;rw[IH (Ne.symm nk)]at e4;exact absurd e4 (other k ys q2)
  ·rcases av e2 with⟨hk,q2⟩|⟨nk,q2⟩
   ·rw[hk,IG hi]at e4;cases e4;rw[IH (Ne.symm nj)]at e3;exact absurd e3 (other j xs q1)
   ·rw[IH (Ne.symm nj)]at e3;rw[IH (Ne.symm nk)]at e4;exact E.env.one j k xs ys a q1 q2 e3 e4
 ·rcases List.mem_cons.mp ha with rfl|ha
  ·exact m
  ·exact(E.env.all.same sm).2 a ha
 ·rcases List.mem_cons.mp ha with rfl|ha
  ·exact .inr (E.base.same.free hp)
  ·exact E.base.new a ha
 ·rcases av e1 with⟨hj,q1⟩|⟨nj,q1⟩
  ·rw[hj,IG hi]at e2;cases e2;exact⟨E.base.same.free hp,λz=>hpO (E.base.sub p z)⟩
  ·rw[IH (Ne.symm nj)]at e2;exact E.mine j xs a q1 e2
 ·rcases av e with⟨_,q⟩|⟨ne,q⟩
  ·cases q
  ·refine(E.nst j dn q).to (IH (Ne.symm ne)) s (λb q1 q2 q3 q4 zq=>zq.elim λo ho=>⟨by rw[ho,sm _ _ ho],IC _ q1,q2,λl d1 w=>?_⟩) λl d1 w=>?_
   ·rcases av w with⟨hl,z⟩|⟨nl,z⟩
    ·rw[hl,IG hi];intro z;cases z;rw[hp]at ho;cases ho
    ·rw[IH (Ne.symm nl)];exact q4 l d1 z
   ·rcases av w with⟨_,z⟩|⟨_,z⟩
    ·cases z
    ·exact⟨d1,z⟩
noncomputable def Hv(X:Cx)(F:FX):TE:=λσ H Q=>∃O ρ,b7 X.K O H ρ σ/\gk X σ O H (F ρ) λd=>∀p H',aI H H'->H p=none->(∃o,H' p=some o/\kF o)->bT X.K H' (p::O) p d->Q (.ref p) H'
noncomputable def FN(X:Cx)(e:Mb)(F:FX):Prop:=PE X e (Hv X F)
section
variable{X:Cx}{pos:Pos}
theorem gL{K:KZ}{H:Hp}{O:au}{p:Ma}{ds:List D}{vs:aB}(hp:H p=none)(d:ax K (hid H O) ds vs):bT K (upd H p (.lst vs)) (p::O) p (.lst ds):=⟨_,vs,ah,rfl,d.mono (eT hp)⟩
noncomputable def pR:FX:=λ_=>.ok (.dct [] [])
theorem En:FN X (.Dict [] [] pos) pR:=PE.weak qi λσ H Q ⟨O,ρ,E,q⟩ p hp=>q p _ (aW hp _) hp ⟨_,ah,trivial⟩ ⟨_,[],ah,bB.mpr rfl,.inr ⟨[],rfl,rfl,rfl⟩⟩
noncomputable def i5(i:Nat)(f:FX):bG:=λk ρ=>kS (f ρ) k ρ λd=>k.nx (ρ.set i (some (.own d)))
theorem nI{st:Md}{f:FX}{i:Nat}(hi:i<X.N.length)(h:PS X st (wG (Hv X f) (n9 i))):FS X st (i5 i f):=λHb Ob pins s σ H E I zq=>zq.elim λO zq=>zq.elim λρ zq=>zq.elim λk zq=>zq.elim λr zq=>zq.elim λS zq=>zq.elim λhF hk=>
 h pins s σ H E I ⟨O,ρ,S.env,gk.on hF hk S λd e p H1 s1 hp m o=>hk.nx _ _ _ H1 (S.setNew (by rw[I.len];exact hi) s1 hp m o) e⟩
end
theorem B1{X:Cx}{F:FX}:∀σ H Q,Hv X F σ H Q->Hi X F σ H Q:=λσ H Q zq=>zq.elim λO zq=>zq.elim λρ zq=>zq.elim λE hF=>⟨O,ρ,E,hF.imp λd q D H' total acc e sm hD hD' dn=>by
 subst e;exact q D H' sm hD ⟨_,hD',trivial⟩ ⟨_,acc,hD',rfl,dn⟩⟩
noncomputable def vx(i:Nat)(u:List D->List D->iU)(f:aN):bG:=λk ρ=>match ρ[i]? with
 |some (some (.own (.lst xs)))=>kS (f ρ) k ρ λds=>(rO (u xs ds)).bind λys=>k.nx (ρ.set i (some (.own (.lst ys))))
 |_=>un
noncomputable def Bx(K:KZ)(r:V->aB->Hp->VK->Prop)(u:List D->List D->iU):Prop:=
 ∀(H:Hp)(O:au)(a:Ma)(xs ys as:List D)(ws vs:aB)(Q:VK),bQ H O->a∈O->H a=some (.lst ws)->ax K (hid H O) xs ws->ax K (hid H O) as vs->u xs as=some ys->(∀ws' v,ax K (hid H O) ys ws'->Q v (upd H a (.lst ws')))->r (.ref a) vs H Q
theorem qg{K:KZ}{H:Hp}{O:au}{a:Ma}{ys:List D}{ws:aB}(ha:a∈O)(h:ax K (hid H O) ys ws):bT K (upd H a (.lst ws)) O a (.lst ys):=⟨_,ws,ah,rfl,h.mono (dI ha)⟩
noncomputable def ja(xs:List D)(ds:List D):iU:=match ds with
 |[y]=>if small (xs.length+1)then some (xs++[y])else none
 |_=>none
theorem vO{K:KZ}:Bx K tR ja:=λH O a xs ys as ws vs Q hO haO ha dx da hu q=>by
 unfold ja at hu;split at hu
 ·rename_i y;obtain⟨h1,h2⟩:=bg hu;subst h2;obtain⟨v,rfl,dv⟩:=da.one
  have:=bZ h1
  rw[dx.length]at this;exact⟨a,ws,v,rfl,rfl,ha,by omega,q _ _ (dx.snoc dv)⟩
 ·cases hu
noncomputable def frz(i:Nat)(ρ:ak):ak:=match ρ[i]? with
 |some (some (.own d))=>setV i d ρ
 |_=>ρ
theorem b7.frz{K:KZ}{O:au}{H:Hp}{ρ:ak}{σ:St}(E:b7 K O H ρ σ)(i:Nat):∃O',b7 K O' H (frz i ρ) σ/\(∀b∈O',b∈O)/\∀b∈O,b∉O'->∃d,ρ[i]?=some (some (.own d))/\σ[i]?=some (some (.ref b)):=by
 unfold TG.frz;split
 ·rename_i d hd;obtain⟨a,ha,haO,hat⟩:=E.own i d hd;have sub:∀b∈O.filter (λb=>decide (b≠a)),b∈O:=λb hb=>(List.mem_filter.mp hb).1;have s:aI (hid H O) (hid H (O.filter λb=>decide (b≠a))):=gx sub;have na:a∉O.filter λb=>decide (b≠a):=λz=>absurd rfl (of_decide_eq_true (List.mem_filter.mp z).2);refine⟨O.filter λb=>decide (b≠a),⟨λj d' e=>?_,λj ys e=>?_,λj l ys zs b q1 q2 q3 q4=>?_,⟨E.all.1,λb hb=>E.all.2 b (sub b hb)⟩⟩,sub,λb hb nb=>?_⟩
  ·rcases av e with⟨hj,q⟩|⟨ne,q⟩
   ·cases q;rw[hj];exact⟨.ref a,ha,hat.den s na⟩
   ·obtain⟨w,q1,q2⟩:=E.val j d' q;exact⟨w,q1,q2.mono s⟩
  ·rcases av e with⟨_,q⟩|⟨ne,q⟩
   ·cases q
   ·obtain⟨b,q1,q2,q3⟩:=E.own j ys q;have nb:b≠a:=λz=>ne (E.one j i ys d a q hd (by rw[<-z];exact q1) ha);exact⟨b,q1,List.mem_filter.mpr ⟨q2,decide_eq_true nb⟩,q3.mono rfl s⟩
  ·rcases av q1 with⟨_,q⟩|⟨_,q⟩
   ·cases q
   ·rcases av q2 with⟨_,q'⟩|⟨_,q'⟩
    ·cases q'
    ·exact E.one j l ys zs b q q' q3 q4
  ·by_cases z:b=a
   ·exact⟨d,hd,by rw[z];exact ha⟩
   ·exact absurd (List.mem_filter.mpr ⟨hb,decide_eq_true z⟩) nb
 ·exact⟨O,E,λ_ z=>z,λb hb nb=>absurd hb nb⟩
theorem bx.frz{K:KZ}{Hb:Hp}{Ob O:au}{H:Hp}{ρ:ak}{σ:St}(E:bx K Hb Ob O H ρ σ)(i:Nat):∃O',bx K Hb Ob O' H (frz i ρ) σ:=by
 obtain⟨O',E',sub,gone⟩:=E.env.frz i;refine⟨O',E',⟨E.base.same,λa ha=>?_,λa ha=>E.base.new a (sub a ha)⟩,λj xs a q1 q2=>?_,λj dn q1=>?_⟩
 ·by_cases z:a∈O'
  ·exact z
  ·obtain⟨d,e1,e2⟩:=gone a (E.base.sub a ha) z;exact absurd ha (E.mine i d a e1 e2).2
 ·have q:ρ[j]?=some (some (.own xs)):=by
   unfold TG.frz at q1;split at q1
   ·rcases av q1 with⟨_,q⟩|⟨_,q⟩
    ·cases q
    ·exact q
   ·exact q1
  exact E.mine j xs a q q2
 ·have bk:∀(l:Nat) x,(TG.frz i ρ)[l]?=some (some x)->(∀d,x≠.val d)->ρ[l]?=some (some x):=λl x e nv=>by
   unfold TG.frz at e;split at e
   ·rcases av e with⟨_,q⟩|⟨_,q⟩
    ·cases q;exact absurd rfl (nv _)
    ·exact q
   ·exact e
  refine(E.nst j dn (bk j _ q1 (λ_ z=>nomatch z))).to rfl (gx sub) (λb w1 w2 w3 w4 _=>⟨rfl,?_,w2,λl d1 w=>w4 l d1 (bk l _ w (λ_ z=>nomatch z))⟩) λl d1 w=>⟨d1,bk l _ w (λ_ z=>nomatch z)⟩
  by_cases z:b∈O'
  ·exact z
  ·obtain⟨d,e1,e2⟩:=gone b w1 z;exact absurd e2 (w4 i d e1)
noncomputable def jb(i:Nat)(F:bG):bG:=λk ρ=>F k (frz i ρ)
mutual
noncomputable def lf:D->Bool
 |.tup xs=>BF xs
 |.lst _=>false
 |.dct _ _=>false
 |.obj _ _ vs=>BF vs
 |.exc _ _ _=>false
 |_=>true
noncomputable def BF:List D->Bool
 |[]=>true
 |x::xs=>lf x&&BF xs
end
mutual
theorem wA{K:KZ}{H:Hp}{O O':au}(hO:bQ H O):∀{d:D}{v:V},lf d=true->bv K (hid H O') d v->bv K (hid H O) d v
 |.non,_,_,h=>by unfold bv at h ⊢;exact h
 |.bl _,_,_,h=>by unfold bv at h ⊢;exact h
 |.int _,_,_,h=>by unfold bv at h ⊢;exact h
 |.str _,_,_,h=>by unfold bv at h ⊢;exact h
 |.lst _,_,l,_=>by unfold lf at l;cases l
 |.dct _ _,_,l,_=>by unfold lf at l;cases l
 |.exc _ _ _,_,l,_=>by unfold lf at l;cases l
 |.obj c fs xs,_,l,h=>by
  unfold lf at l;rw[Af]at h ⊢;obtain⟨a,ws,e,h1,hl,C,dx,hc,ha⟩:=h;refine⟨a,ws,e,oP hO l h1,hl,C,dx,hc,?_⟩;have q':=aj H O' a _ ha;rw[cQ λz=>by obtain⟨u,e1,e2⟩:=hO.2 a z;rw[q']at e1;cases e1;exact e2.elim];exact q'
 |.tup xs,_,l,h=>by
  unfold lf at l;rw[bh]at h ⊢;obtain⟨a,vs,e,h1,h2⟩:=h;refine⟨a,vs,e,?_,oP hO l h2⟩;have key:∀{o:HO},hid H O' a=some o->¬kF o->hid H O a=some o:=λ{o} q n=>by
   have q':=aj H O' a o q;rw[cQ λz=>by obtain⟨u,e1,e2⟩:=hO.2 a z;rw[q']at e1;cases e1;exact n e2];exact q'
  exact key h1 λz=>z.elim
theorem oP{K:KZ}{H:Hp}{O O':au}(hO:bQ H O):∀{ds:List D}{vs:aB},BF ds=true->ax K (hid H O') ds vs->ax K (hid H O) ds vs
 |[],_,_,h=>by rw[bB]at h ⊢;exact h
 |x::xs,_,l,h=>by
  unfold BF at l;rw[Jc]at l;rw[aK]at h ⊢;obtain⟨v,r,e,h1,h2⟩:=h;exact⟨v,r,e,wA hO l.1 h1,oP hO l.2 h2⟩
end
noncomputable def frzs(is:aT)(ρ:ak):ak:=is.foldl (λρ i=>frz i ρ) ρ
theorem b7.frzs{K:KZ}{H:Hp}{σ:St}:∀(is:aT){O:au}{ρ:ak},b7 K O H ρ σ->∃O',b7 K O' H (frzs is ρ) σ
 |[],O,_,E=>⟨O,E⟩
 |i::is,_,_,E=>by
  obtain⟨O',E',_⟩:=E.frz i;exact b7.frzs is E'
noncomputable def eW(is:aT)(f:FX):FX:=λρ=>(pM (f (frzs is ρ))).bind λd=>if lf d then .ok d else un
noncomputable def i9(is:aT)(f:aY):aY:=λρ=>pM (f (frzs is ρ))
end TG
namespace TG
open PySem PySem.Spec L2
variable[aq]
noncomputable def BH(K:KZ)(n:Nat)(g:List D->R D):Sp:=λvs H Q E=>∃O ds,vs.length=n/\bQ H O/\ax K (hid H O) ds vs/\match g ds with
 |.ok d=>∀v H',aI H H'->bv K (hid H' O) d v->Q v H'
 |.error (some x)=>Hx K H O x E
 |.error none=>False
section
variable{X:Cx}{k:Nat}{f C:Ma}{fd:MH}{ps:ay}{sp:Sp}{x m:Str}{p pos apos:Pos}{e o:Mb}{es:aX}{ta:TE}{t:TA}
theorem zo{pins:aG}{σ:St}{H:Hp}{s:Mf}{Q:VK}{E:XK}{us:aF}{vs:aB}(F:iW X.prog X.w X.K X.mg X.base (kT X.prog X.w) k f fd ps sp)(hr:eQ k X.A)(hb:Binds X.K fd ps [])(hx:jh (kT X.prog X.w) X σ E)
  (I:`h) (r:Vals vs us) (h:sp vs H Q E):Mr `i X.A (call (.ref f) us) (EP X pins σ Q) X.xe s:=by
 have hl:(us++[]).length=ps.length:=by rw[IM,<-r.length];exact F.len _ _ _ _ h
 have hb':=hb s us I.kIn hl;rw[IM]at hb';refine M9 (MY (F.run X.A X.stack s H ⟨us,[]⟩ us vs Q E hr I.env0 hb' r h) λr s' hq=>?_);cases r with
 |error e=>exact hx pins H s e s' I hq
 |ok fl=>
  cases fl with
  |ret u=>exact I.after hq
  |next=>exact False.elim hq
  |brk=>exact False.elim hq
  |cont=>exact False.elim hq
noncomputable def xI(X:Cx)(sp:Sp)(t:TA):TE:=λσ H Q=>t σ H λvs H1=>∃E,jh (kT X.prog X.w) X σ E/\sp vs H1 Q E
theorem w8(F:iW X.prog X.w X.K X.mg X.base (kT X.prog X.w) k f fd ps sp)(hr:eQ k X.A)(hg:Gl X x)(hm:X.mg x=some (.ref f))(hk:La X.K (.ref f)=true)(hb:Binds X.K fd ps [])
  (ha:PA X (e::es) t) (hdb:(x==("__debug__":Str))=false:=by decide) (he:Ms (e::es) X.env=(false,eval e X.env)::Ms es X.env:=by rfl) (hpl:(backTo pos (Ms es X.env)).any (·.1)=false:=by rfl):
  PE X (.Call (.Name x p) (e::es) [] pos) (xI X sp t):=by
 intro pins s σ H Q I h;refine MK (oS I hg hm ?_ hdb);refine Lf (h₀:=X.base) I.ok.mod.kin hk (cg (ha pos pins s σ H _ I h) λus s1 zq=>zq.elim λvs zq=>zq.elim λH1 zq=>zq.elim λI1 zq=>zq.elim λr zq=>zq.elim λE zq=>zq.elim λhx q=>⟨I1.kIn,?_⟩) he hpl;exact zo F hr hb hx I1 r q
theorem vK{n:Nat}{g:List D->R D}{f:aN}(hn:∀ds,g ds≠un->ds.length=n):∀σ H Q,tF X (fR g f) σ H Q->xI X (BH X.K n g) (Hj X f) σ H Q:=λσ H Q zq=>zq.elim λO zq=>zq.elim λρ zq=>zq.elim λE hF=>
 ⟨O,ρ,E,(gk.bind hF).imp fun ds hF vs H1 s1 d1=>by
  cases hg:g ds with
  |ok d=>
   rw[hg]at hF;refine⟨E0,AW,O,ds,by rw[<-d1.length];exact hn ds (by rw[hg];intro z;cases z),E.all.same s1,d1,?_⟩;rw[hg];exact λv H2 s2 d2=>hF v H2 (s1.trans s2) d2
  |error z=>
   rw[hg]at hF;cases z with
   |none=>exact hF.elim
   |some x=>
    refine⟨zc X O H1 x,A9 (B8.mono hF s1),O,ds,by rw[<-d1.length];exact hn ds (by rw[hg];intro z;cases z),E.all.same s1,d1,?_⟩;rw[hg];exact yy⟩
end
noncomputable def Callee(P:Mh)(w:Mg)(K:KZ)(mg:bU)(base:Mj)(k:Nat)(x:Str)(ps:ay)(g:List D->R D):Prop:=
 ∃f fd,iW P w K mg base (kT P w) k f fd ps (BH K ps.length g)/\Binds K fd ps []/\La K (.ref f)=true/\mg x=some (.ref f)
noncomputable def Ar(n:Nat)(g:List D->R D):Prop:=∀ds,g ds≠un->ds.length=n
noncomputable def K0:Ks:={nx:=λ_=>.ok .non}
noncomputable def env0(n:Nat)(ds:List D):ak:=ds.map (λd=>some (.val d))++List.replicate (n-ds.length) none
noncomputable def bH(B:bG)(np n:Nat):List D->R D:=λds=>if ds.length=np then B K0 (env0 n ds)else un
theorem Dq{B:bG}{np n:Nat}:Ar np (bH B np n):=λds h=>by
 unfold bH at h;split at h
 ·assumption
 ·exact absurd rfl h
theorem gS{n:Nat}{ds:List D}(i:Nat)(x:S)(e:(env0 n ds)[i]?=some (some x)):∃d,ds[i]?=some d/\x=.val d:=by
 unfold env0 at e;by_cases hi:i<ds.length
 ·rw[IU (by rw[IZ];exact hi),IV,Jz hi]at e;have e':some (S.val ds[i])=some x:=Option.some.inj e;exact⟨ds[i],by rw[Jz hi],(Option.some.inj e').symm⟩
 ·rw[IR (by rw[IZ];omega),IZ,IT]at e;split at e
  ·cases e
  ·cases e
theorem rP{K:KZ}{O:au}{H:Hp}{N:ay}{ds:List D}{vs:aB}(hO:bQ H O)(h:ax K (hid H O) ds vs):b7 K O H (env0 N.length ds) (L2.start N vs):=by
 refine⟨λi d e=>?_,λi xs e=>?_,λi j xs ys a e=>?_,hO⟩
 ·obtain⟨d',e1,e2⟩:=gS i _ e;cases e2;obtain⟨v,e3,e4⟩:=h.get e1;refine⟨v,?_,e4⟩;unfold L2.start;have hi:i<vs.length:=(List.getElem?_eq_some_iff.mp e3).1;rw[IU (by rw[IZ];exact hi),IV,e3];rfl
 ·obtain⟨d',_,e2⟩:=gS i _ e;cases e2
 ·obtain⟨d',_,e2⟩:=gS i _ e;cases e2
section
variable{P:Mh}{w:Mg}{K:KZ}{mg:bU}{base:Mj}
structure BodyOk(P:Mh)(w:Mg)(K:KZ)(mg:bU)(base:Mj)(k:Nat)(N:ay)(qual:Str)(st:Md)(f:Ma)(B:bG):Prop where
 h:∀(cdv:L8)(A:Mo)(outer:List Env)(s:Mf)(H:Hp)(E:XK),eQ k (A.deeper (LN qual (aC st) s.heap.objs.size f cdv))->Mv (model P w) (A.deeper (LN qual (aC st) s.heap.objs.size f cdv)) (LN qual (aC st) s.heap.objs.size f cdv) (gI (kT P w) P w K mg base N qual (aC st) f cdv A outer s H E).xe->
  Gf (gI (kT P w) P w K mg base N qual (aC st) f cdv A outer s H E) (cz st) B
theorem G9{x qual:Str}{st:Md}{f:Ma}{fd:MH}{N ps:ay}{k:Nat}{sp:Sp}{CX:t5}(F:wa K x qual st f fd)(S:dq N ps (aC st))(len:∀vs H Q E,sp vs H Q E->vs.length=ps.length)
  (hbody:∀ (cdv:L8) (A:Mo) (outer:List Env) (s:Mf) (H:Hp) (vs:aB) (Q:VK) (E:XK),eQ k (A.deeper (LN qual (aC st) s.heap.objs.size f cdv))->sp vs H Q E ->
   ∃t,o4 (gI CX P w K mg base N qual (aC st) f cdv A outer s H E) (cz st) t/\t {nx:=λ_ H'=>Q .non H',rt:=Q} (L2.start N vs) H):iW P w K mg base CX (k+1) f fd ps sp:=by
 obtain⟨oc,od,kV,doc,pm,an,cdv,ct,osl,rfl,lk,hcd⟩:=F.ex;exact BI lk hcd S len λA outer s H vs Q E hr hsp=>hbody cdv A outer s H vs Q E hr hsp
theorem iW.any{CX:t5}{k:Nat}{f:Ma}{fd:MH}{ps:ay}{sp:Sp}(F:iW P w K mg base Gj k f fd ps sp):iW P w K mg base CX k f fd ps sp:=
 ⟨F.len,fun A outer s H args us vs Q E hr he hb hv hs=>MY (F.run A outer s H args us vs Q E hr he hb hv hs) fun r s' h=>by
  cases r with
  |error e=>exact False.elim h
  |ok fl=>cases fl<;>exact h⟩
theorem ug{x qual:Str}{st:Md}{f:Ma}{fd:MH}{N ps:ay}{k:Nat}{B:bG}(F:wa K x qual st f fd)(SC:dq N ps (aC st))(hb:BodyOk P w K mg base k N qual st f B):
  iW P w K mg base (kT P w) (k+1) f fd ps (BH K ps.length (bH B ps.length N.length)):=by
 refine G9 F SC (λvs H Q E h=>?_) λcdv A outer s H vs Q E hr h=>?_
 ·obtain⟨O,ds,h1,_⟩:=h;exact h1
 ·obtain⟨O,ds,h1,h2,h3,h4⟩:=h;have hl:ds.length=ps.length:=h3.length.trans h1;have e4:bH B ps.length N.length ds=B K0 (env0 N.length ds):=by unfold bH;rw[if_pos hl]
  rw[e4]at h4;refine⟨_,hb.h cdv A outer s H E hr PassesOwn.leaving H O,O,env0 N.length ds,K0,_,⟨rP h2 h3,⟨aI.refl H,λ_ z=>z,λa z=>.inl z⟩,λi xs a e=>?_,λi d e=>by obtain⟨d',_,e2⟩:=gS i _ e;cases e2⟩,rfl,?_⟩
  ·obtain⟨d',_,e2⟩:=gS i _ e;cases e2
  ·generalize B K0 (env0 N.length ds)=r at h4;refine⟨λz=>by rw[z]at h4;exact h4,λO' ρ' σ' H' S e=>?_,λO' ρ' σ' H' S e=>?_,λO' ρ' σ' H' S e=>?_,λd O' v H' e b dv=>?_,λO' ρ' σ' H' x S e=>?_⟩
   ·have e:(.ok .non:R D)=r:=e;subst e;exact h4 .non H' S.base.same (fP.mpr rfl)
   ·have e:(un:R D)=r:=e;subst e;exact h4.elim
   ·have e:(un:R D)=r:=e;subst e;exact h4.elim
   ·subst e;exact h4 v H' b.same (dv.mono (gx b.sub))
   ·have e:(.error (some x):R D)=r:=e;subst e;exact Cv h4 S.base.same S.base.sub
theorem vA{x qual:Str}{st:Md}{f:Ma}{fd:MH}{N ps:ay}{k:Nat}{B:bG}(F:wa K x qual st f fd)(b:Binds K fd ps [])(m:mg x=some (.ref f))(SC:dq N ps (aC st))(hb:BodyOk P w K mg base k N qual st f B):
  Callee P w K mg base (k+1) x ps (bH B ps.length N.length):=⟨f,fd,ug F SC hb,b,F.kp,m⟩
end
theorem t6{K:KZ}{T:String}(h1:Ld K (.type "NoneType") (.type T)=some (T=="NoneType"))(h2:Ld K (.type "bool") (.type T)=some (T=="bool"||T=="int"))(h3:Ld K (.type "int") (.type T)=some (T=="int"))(h4:Ld K (.type "str") (.type T)=some (T=="str"))
  (h5:Ld K (.type "tuple") (.type T)=some (T=="tuple")) (h6:Ld K (.type "list") (.type T)=some (T=="list")):yt K T:=λd hd=>by
 cases d with
 |dct _ _=>cases hd
 |obj _ _ _=>cases hd
 |exc _ _ _=>cases hd
 |non=>exact h1
 |bl _=>exact h2
 |int _=>exact h3
 |str _=>exact h4
 |tup _=>exact h5
 |lst _=>exact h6
theorem rH{K:KZ}:yt K "tuple":=t6 rfl rfl rfl rfl rfl rfl
theorem vJ{K:KZ}:yt K "list":=t6 rfl rfl rfl rfl rfl rfl
end TG
namespace TG
open PySem PySem.Spec L2
variable[aq]
section
variable{X:Cx}{a b c:Mb}{fa fb fc:FX}{pos:Pos}
theorem Cy{r:V->Hp->VK->Prop}{g:D->aU}(s:zG X.K r g):∀σ H Q,tF X (f1 g fa) σ H Q->HH r (tF X fa) σ H Q:=λσ H Q zq=>zq.elim λO zq=>zq.elim λρ zq=>zq.elim λE hF=>⟨O,ρ,E,(gk.bind hF).imp λa hF x H1 s1 d1=>by
 obtain⟨d,e,q⟩:=gk.rO hF;exact s a d x O H1 Q (E.all.same s1) e d1 λv H2 s2 d2=>q v H2 (s1.trans s2) d2⟩
noncomputable def Dy(g g':D->D->aU)(fa fb fc:FX):FX:=λρ=>(fa ρ).bind λx=>(fb ρ).bind λy=>(rO (g x y)).bind λz=>rA z ((fc ρ).bind λw=>rO (g' y w))
noncomputable def DY:D->aU
 |.int i=>some (.int (-i))
 |_=>none
noncomputable def y0(f:FX):FX:=f1 DY f
noncomputable def yo:D->aU
 |.str x=>if small x.length then some (.str (Txt.upper x))else none
 |_=>none
noncomputable def DK(f:FX):FX:=f1 yo f
noncomputable def Dm:D->aU
 |.lst xs=>some (.lst xs.reverse)
 |.tup xs=>some (.tup xs.reverse)
 |_=>none
noncomputable def HA(f:FX):FX:=f1 Dm f
end
end TG
namespace ZI
open PySem PySem.Spec PyProof.Rows
end ZI
namespace TG
open PySem PySem.Spec L2 ZI
variable[aq]
section
variable{X:Cx}{pins:aG}{σ:St}{H:Hp}{s:Mf}{h':Mj}
theorem Inv.turned0{ch:au}{t':Nat}(I:`h)(hf:∀b∈ch,oD X pins H b)(k:∀b u,b∉ch->s.heap.get? b=some u->h'.get? b=some u):Inv X pins σ H {s with heap:=h',toks:=t'}:=by
 have nch:∀b u,H b=some u->b∉ch:=λb u e z=>by rw[(hf b z).1]at e;cases e
 refine I.step (g':=s.gens) (d':=s.drawn) (ch:=ch) (λb hb=>?_) (λb o _ _ hc e _=>k b o hc e) (λb o _ _ hc e _=>⟨o.slots,k b o hc e⟩) (λ_ _ _ _ n=>n)
  (λb o hc e=>⟨o,k b o hc e⟩) (λ_ _ e=>e) (λ_ _ _ e=>e) (λb ps e=>⟨#[],by rw[e];simp⟩) (λm hm=>?_) (λb u e=>?_) I.bare
 ·obtain⟨_,f1,_,f3,f4,f5⟩:=hf b hb;exact⟨f3,f1,f4,f5⟩
 ·obtain⟨o,es,ep,ho,r⟩:=hm;exact⟨o,es,ep,k _ o (λz=>(hf _ z).2.1 rfl) ho,r⟩
 ·refine(I.hok b u e).stay (λc v hc q=>k c v ?_ q) (λ_ q=>q) λ_ _ q=>q;rcases hc with z|z
  ·rw[z];exact nch b u e
  ·exact nch c _ z
end
noncomputable def CZ:D->Option (Bool×List D)
 |.lst xs=>some (true,xs)
 |.tup xs=>some (false,xs)
 |_=>none
noncomputable def Fs:List D->List D->List D
 |x::xs,y::ys=>.tup [x,y]::Fs xs ys
 |_,_=>[]
noncomputable def ED:List D->iU
 |[a,b]=>(CZ a).bind λx=>(CZ b).bind λy=>some (Fs x.2 y.2)
 |_=>none
noncomputable def Hf(f:aN):aN:=λρ=>(f ρ).bind λds=>rO (ED ds)
noncomputable def BC(i:Nat):List D->List D
 |[]=>[]
 |x::xs=>.tup [.int i,x]::BC (i+1) xs
noncomputable def B4:List D->iU
 |[a]=>(CZ a).bind λx=>some (BC 0 x.2)
 |_=>none
noncomputable def rG(f:aN):aN:=λρ=>(f ρ).bind λds=>rO (B4 ds)
end TG
namespace TG
open PySem PySem.Spec L2
variable[aq]
theorem n8{K:KZ}{c:Str}{C C':Ma}(h:clsAt K c C)(h':clsAt K c C'):C=C':=by
 unfold clsAt at h h';rw[h]at h';cases h';rfl
theorem lx{K:KZ}{H:Hp}{f:Str}:∀{fs:ay}{ds:List D}{vs:aB}{d:D},ax K H ds vs->(fs.zip ds).lookup f=some d->∃v,(fs.zip vs).lookup f=some v/\bv K H d v
 |[],_,_,_,_,e=>by simp at e
 |_::_,[],_,_,_,e=>by simp at e
 |g::fs,x::ds,vs,d,h,e=>by
  rw[aK]at h;obtain⟨v,r,rfl,h1,h2⟩:=h;rw[JS,Js]at e ⊢;cases hg:f==g with
  |true=>rw[hg]at e;cases e;exact⟨v,rfl,h1⟩
  |false=>rw[hg]at e;exact lx h2 e
section
variable{X:Cx}{a o e:Mb}{es:aX}{fa fo:FX}{fas:aN}{f m x:Str}{cs:ay}{pos apos p:Pos}{k k':Nat}{ps:ay}
theorem Fi{X:Cx}:Ci (kT X.prog X.w) X E0:=λ_ _ _ _ _ _ _ h=>by
 obtain⟨_,_,_,_,_,_,_,_,_,_,_,_,_,_,z⟩:=h;exact z.elim
end
end TG
namespace TG
open PySem PySem.Spec L2
variable[aq]
section
variable{X:Cx}
noncomputable def Im:D->Option Str
 |.str z=>some z
 |_=>none
noncomputable def GP(a b:D):aU:=match a,b with
 |.bl c,.bl d=>some (.bl (c==d))
 |_,_=>none
noncomputable def Aw(a b:D):aU:=match a,b with
 |.bl c,.bl d=>some (.bl (!(c==d)))
 |_,_=>none
end
section
variable{X:Cx}{C:Ma}{pins:aG}{σ:St}{H:Hp}{s:Mf}{Q:VK}
end
end TG
namespace TG
open PySem PySem.Spec PyProof.Rows L2
variable[aq]
noncomputable def cw:List D->List D->Option Bool
 |[],[]=>some false
 |[],_::_=>some true
 |_::_,[]=>some false
 |a::as,b::bs=>match a,b with
  |.int i,.int j=>if i=j then cw as bs else some (decide (i<j))
  |.str x,.str y=>if x=y then cw as bs else some (decide (x.cps.toList<y.cps.toList))
  |_,_=>none
inductive dy:aF->List D->Prop where
 |nil:dy [] []
 |int (i:Int) (t:Tok) {vs:aF} {ds:List D} (h:dy vs ds):dy (.int i t::vs) (.int i::ds)
 |str (x:Str) (t:Tok) {vs:aF} {ds:List D} (h:dy vs ds):dy (.str x t::vs) (.str x::ds)
theorem dy.length{vs:aF}{ds:List D}(h:dy vs ds):vs.length=ds.length:=by
 induction h with
 |nil=>rfl
 |int _ _ _ ih=>rw[Jl,Jl,ih]
 |str _ _ _ ih=>rw[Jl,Jl,ih]
theorem BD(A:Mo)(s:Mf)(a:Int)(t:Tok)(c:Int)(u:Tok):∃e,SeqAt.EqAt A s (.int a t) (.int c u) e/\(e=true↔a=c):=
 ⟨(a==c),SeqAt.EqAt.int_int a t c u,by simp⟩
theorem BV(A:Mo)(s:Mf)(a:Str)(t:Tok)(c:Str)(u:Tok):∃e,SeqAt.EqAt A s (.str a t) (.str c u) e/\(e=true↔a=c):=
 ⟨(a==c),SeqAt.EqAt.str_str a t c u,by simp⟩
theorem FC(A:Mo)(s:Mf)(a:Str)(t:Tok)(c:Str)(u:Tok)(prog:Mh)(w:Mg)(E:aD)(Q:aD)(h:Q (.bool (decide (a.cps.toList<c.cps.toList))) s):
  Mr `g A (richCompare .Lt (.str a t) (.str c u)) Q E s:=
 (PySem.P.lt_str h:Mr `g A (MB .Lt (.str a t) (.str c u)) Q E s)
section
open PySem.SeqAt
open PySem.AutoSeq1 (wpAny_loadPart')
open PySem.MeetsSeq PySem.MeetsSeq2 PySem.MeetsSeq3
set_option maxHeartbeats 1000000 in
theorem mU(l b:Ma)(items items2:Array L8)(n n2:Nat)(dd dd2:Option Ma)(sl sl2:Array (Option L8))(ns ms:List D)(r:Bool)(hi:dy items.toList ns)(hj:dy items2.toList ms)(hr:cw ns ms=some r):
  Meets (Builtin.«tuple.__lt__» ⟨[.ref l,.ref b],[]⟩)
   (fun _ R s=>s.heap.get? l=some { cls:=.type "tuple",dict:=dd,data:=.seq items n,slots:=sl }/\s.heap.get? b=some { cls:=.type "tuple",dict:=dd2,data:=.seq items2 n2,slots:=sl2 } /\
    R (.ok (.ret (.bool r))) s):=
 .of_wp λprog w A R s h=>by
  obtain⟨hp,g,d,tk,os⟩:=s;obtain⟨hl,hb,h⟩:=h;have f2:=AutoSeq1.sub_tuple_tuple;have z1:items.size=ns.length:=by rw[<-hi.length];simp
  have z2:items2.size=ms.length:=by rw[<-hj.length];simp
  wp_walk using wpAny_loadPart' hl,wpAny_loadPart' hb,wpAny_forIn_list _ (λrest b s'=>b.1=none/\s'=⟨hp,g,d,tk,os⟩/\∃(vs ws:aF)(ns' ms':List D),rest=vs.zip ws/\
   dy vs ns'/\dy ws ms'/\ns'.length+items2.size=ms'.length+items.size/\cw ns' ms'=some r/\R (.ok (.ret (.bool r))) ⟨hp,g,d,tk,os⟩) _
  case turn=>
   rintro⟨y,x⟩ rest b s' ⟨hb',rfl,vs,ws,ns',ms',hz,hvi,hwi,hlen,hL,hR⟩;cases hvi with
   |nil=>rw[List.zip_nil_left]at hz;cases hz
   |int a t hvi'=>
    cases hwi with
    |nil=>rw[JT]at hz;cases hz
    |str c u hwi'=>cases hL
    |int c u hwi'=>
     rw[JS]at hz;injection hz with hyx hrest;injection hyx with hy hx;subst hy hx;have hL':(if a=c then cw _ _ else some (decide (a<c)))=some r:=hL;simp only[Jl]at hlen;obtain⟨e,he,hiff⟩:=BD A.in1 ⟨hp,g,d,tk,os⟩ a t c u;refine My (he prog w _ _ ?_);cases e with
     |true=>
      rw[if_pos (hiff.mp rfl)]at hL'
      wp_walk
      exact⟨rfl,rfl,_,_,_,_,hrest,hvi',hwi',by omega,hL',hR⟩
     |false=>
      rw[if_neg (λq=>absurd (hiff.mpr q) II)]at hL';cases hL';have hri:=HT.Fo A.in1 ⟨hp,g,d,tk,os⟩ a t c u prog w
      wp_walk using hri
      exact⟨_,rfl,by simpa using hR⟩
   |str a t hvi'=>
    cases hwi with
    |nil=>rw[JT]at hz;cases hz
    |int c u hwi'=>cases hL
    |str c u hwi'=>
     rw[JS]at hz;injection hz with hyx hrest;injection hyx with hy hx;subst hy hx;have hL':(if a=c then cw _ _ else some (decide (a.cps.toList<c.cps.toList)))=some r:=hL;simp only[Jl]at hlen;obtain⟨e,he,hiff⟩:=BV A.in1 ⟨hp,g,d,tk,os⟩ a t c u;refine My (he prog w _ _ ?_);cases e with
     |true=>
      rw[if_pos (hiff.mp rfl)]at hL'
      wp_walk
      exact⟨rfl,rfl,_,_,_,_,hrest,hvi',hwi',by omega,hL',hR⟩
     |false=>
      rw[if_neg (λq=>absurd (hiff.mpr q) II)]at hL';cases hL';have hri:=FC A.in1 ⟨hp,g,d,tk,os⟩ a t c u prog w
      wp_walk using hri
      exact⟨_,rfl,by simpa using hR⟩
  case fin=>
   rintro⟨b1,b2⟩ s' ⟨hb',rfl,vs,ws,ns',ms',hz,hvi,hwi,hlen,hL,hR⟩;simp only at hb';subst hb';have hv:r=decide (items.size<items2.size):=by
    have l1:=hvi.length;have l2:=hwi.length;cases ns' with
    |nil=>
     cases ms' with
     |nil=>
      simp only[Jm]at hlen;cases hL;exact(decide_eq_false `o).symm
     |cons c u=>
      simp only[Jm,Jl]at hlen;cases hL;exact(decide_eq_true `o).symm
    |cons a t=>
     cases ms' with
     |nil=>
      simp only[Jm,Jl]at hlen;cases hL;exact(decide_eq_false `o).symm
     |cons c u=>
      have:=congrArg List.length hz
      simp only[Jm,List.length_zip,l1,l2,Jl]at this;omega
   rw[hv]at hR
   wp_walk
   exact⟨_,rfl,by simpa [Builtin.Tuple.tupleCompareSizes]using hR⟩
  case h=>
   exact⟨rfl,rfl,items.toList,items2.toList,ns,ms,rfl,hi,hj,by omega,hr,h⟩
end
section
variable{X:Cx}
theorem vc{α:Type}{c:Bool}{o:Option α}{a:α}(h:(if c then o else none)=some a):c=true/\o=some a:=by
 cases c with
 |true=>exact⟨rfl,h⟩
 |false=>cases h
theorem rR{prog:Mh}{w:Mg}{A:Mo}{E:aD}{s:Mf}{l b:Ma}{items items2:Array L8}{ns ms:List D}{r:Bool}{Q:aD}(hl:IsTup s.heap l items)(hb:IsTup s.heap b items2)(hi:dy items.toList ns)(hj:dy items2.toList ms)(hr:cw ns ms=some r)
  (hu:A.units<MF) (h:Q (.bool r) s):Mr `g A (MB .Lt (.ref l) (.ref b)) Q E s:=by
 obtain⟨⟨cls,dd,data,sl⟩,ho,hc,n,hd⟩:=id hl;obtain⟨⟨cls2,dd2,data2,sl2⟩,ho2,hc2,n2,hd2⟩:=id hb;simp only at hc hd hc2 hd2;subst hc hd hc2 hd2;exact richCompare_meets_room (op:=.Lt) ⟨_,ho,rfl⟩ ⟨_,ho2,rfl⟩ PySem.F.slot_tuple_lt PySem.F.entry_tuple_lt (PySem.F.args_tuple_lt_2 _ _) (mU l b items items2 n n2 dd dd2 sl sl2 ns ms r hi hj hr)
  ⟨ho,ho2,show Value.bool r≠Value.notImplemented/\Q (.bool r) s from⟨(λx=>nomatch x),h⟩⟩ hu
noncomputable def kL:List D->Bool
 |[]=>true
 |.int _::r=>kL r
 |.str _::r=>kL r
 |_=>false
theorem g7{K:KZ}{H:Hp}:∀{ds:List D}{vs:aB}{us:aF},kL ds=true->ax K H ds vs->Vals vs us->dy us ds
 |[],vs,us,_,h,r=>by
  rw[bB]at h;subst h;cases r;exact .nil
 |d::ds,vs,us,hf,h,r=>by
  obtain⟨v,r',e,h1,h2⟩:=aK.mp h;subst e;cases r with
  |cons q1 q2=>
   cases d with
   |int i=>
    rw[dm]at h1;subst h1;obtain⟨t,rfl⟩:=q1;exact .int i t (g7 hf h2 q2)
   |str x=>
    rw[cM]at h1;subst h1;obtain⟨t,rfl⟩:=q1;exact .str x t (g7 hf h2 q2)
   |_=>cases hf
noncomputable def ro(a b:D):aU:=match a,b with
 |.int i,.int j=>some (.bl (decide (i<j)))
 |.str x,.str y=>some (.bl (decide (x.cps.toList<y.cps.toList)))
 |.tup xs,.tup ys=>if kL xs&&kL ys then(cw xs ys).bind λr=>some (.bl r)else none
 |_,_=>none
theorem wz(hu:X.A.units+64<MF):jj X (MB .Lt) (rD X.K ro):=by
 rintro pins s σ H x y u v Q I rx ry ⟨O,a,b,d,hO,ha,hb,hg,q⟩;cases a with
 |int i=>
  cases b with
  |int j=>
   cases hg;exact Ep pins s σ H x y u v Q I rx ry ⟨i,j,dm.mp ha,dm.mp hb,q _ H (aI.refl H) (gC.mpr rfl)⟩
  |_=>cases hg
 |str i=>
  cases b with
  |str j=>
   cases hg;exact vv pins s σ H x y u v Q I rx ry ⟨i,j,cM.mp ha,cM.mp hb,q _ H (aI.refl H) (gC.mpr rfl)⟩
  |_=>cases hg
 |tup xs=>
  cases b with
  |tup ys=>
   obtain⟨h1,h2⟩:=vc hg;obtain⟨r,e1,e2⟩:=bind_some h2;cases e2;rw[Jc]at h1;obtain⟨p,vs,ex,g1,g2⟩:=bh.mp ha;obtain⟨p',vs',ey,g1',g2'⟩:=bh.mp hb;subst ex ey;cases rx;cases ry;obtain⟨its,r1,t1,_⟩:=I.tuple (aV (aj H O) g1);obtain⟨its2,r2,t2,_⟩:=I.tuple (aV (aj H O) g1');exact rR t1 t2 (g7 h1.1 g2 r1) (g7 h1.2 g2' r2) e1 `o (yE I (q _ H (aI.refl H) (gC.mpr rfl)) rfl)
  |_=>cases hg
 |_=>cases hg
end
end TG
namespace TG
open PySem PySem.Spec L2
variable[aq]
end TG
namespace TG
open PySem PySem.Spec PyProof.Rows PySem.W L2
variable[aq]
theorem md:∀a:aT,¬a<a
 |[]=>JU _
 |x::xs=>λh=>by
  rcases List.cons_lt_cons_iff.mp h with h|⟨_,h⟩
  ·omega
  ·exact md xs h
theorem gK:∀{a b c:aT},a<b->b<c->a<c
 |_,_,[],_,h=>absurd h (JU _)
 |_,[],_::_,h,_=>absurd h (JU _)
 |[],_::_,_::_,_,_=>JV _ _
 |x::xs,y::ys,z::zs,h,h'=>by
  rw[JW]at h h' ⊢;rcases h with h|⟨e,h⟩<;>rcases h' with h'|⟨e',h'⟩
  ·exact .inl `o
  ·exact .inl `o
  ·exact .inl `o
  ·exact .inr ⟨by omega,gK h h'⟩
theorem xS:∀a b:aT,a<b\/a=b\/b<a
 |[],[]=>.inr (.inl rfl)
 |[],_::_=>.inl (JV _ _)
 |_::_,[]=>.inr (.inr (JV _ _))
 |x::xs,y::ys=>by
  rw[JW,JW];rcases Nat.lt_trichotomy x y with h|h|h
  ·exact .inl (.inl h)
  ·rcases xS xs ys with q|q|q
   ·exact .inl (.inr ⟨h,q⟩)
   ·exact .inr (.inl (by rw[h,q]))
   ·exact .inr (.inr (.inr ⟨h.symm,q⟩))
  ·exact .inr (.inr (.inl h))
theorem wJ{x y:Str}(h:x.cps.toList=y.cps.toList):x=y:=by
 cases x;cases y;congr 1;exact Array.toList_inj.mp h
inductive Sh:a8->List D->Prop where
 |nil:Sh [] []
 |int (i:Int) {bs:a8} {ds:List D} (h:Sh bs ds):Sh (true::bs) (.int i::ds)
 |str (x:Str) {bs:a8} {ds:List D} (h:Sh bs ds):Sh (false::bs) (.str x::ds)
theorem Sh.length{σ:a8}{a:List D}(h:Sh σ a):a.length=σ.length:=by
 induction h with
 |nil=>rfl
 |int _ _ ih=>rw[Jl,Jl,ih]
 |str _ _ ih=>rw[Jl,Jl,ih]
theorem oW:∀{σ:a8}{a:List D},Sh σ a->kL a=true
 |_,_,.nil=>rfl
 |_,_,.int i h=>by
  unfold kL;exact oW h
 |_,_,.str i h=>by
  unfold kL;exact oW h
theorem mz(i j:Int)(as bs:List D):cw (.int i::as) (.int j::bs)=if i=j then cw as bs else some (decide (i<j)):=by rw[cw]
theorem mD(x y:Str)(as bs:List D):cw (.str x::as) (.str y::bs)=if x=y then cw as bs else some (decide (x.cps.toList<y.cps.toList)):=by rw[cw]
theorem xU:cw [] []=some false:=by rw[cw]
theorem jq:∀{σ:a8}{a:List D},Sh σ a->cw a a=some false
 |_,_,.nil=>xU
 |_,_,.int i h=>by rw[mz,if_pos rfl];exact jq h
 |_,_,.str x h=>by rw[mD,if_pos rfl];exact jq h
theorem lr{σ:a8}{a b:List D}(h1:Sh σ a)(h2:Sh σ b):(cw a b=some true/\cw b a=some false/\a≠b)\/a=b\/(cw b a=some true/\cw a b=some false/\a≠b):=by
 induction h1 generalizing b with
 |nil=>cases h2;exact .inr (.inl rfl)
 |int i h ih=>
  cases h2 with|int j h'=>
  rw[mz,mz];by_cases e:i=j
  ·subst e;rw[if_pos rfl,if_pos rfl];rcases ih h' with⟨q1,q2,q3⟩|q|⟨q1,q2,q3⟩
   ·exact .inl ⟨q1,q2,λz=>q3 (by injection z)⟩
   ·exact .inr (.inl (by rw[q]))
   ·exact .inr (.inr ⟨q1,q2,λz=>q3 (by injection z)⟩)
  ·rw[if_neg e,if_neg (λz=>e z.symm)];rcases Int.lt_or_gt_of_ne e with q|q
   ·exact .inl ⟨by rw[decide_eq_true q],by rw[decide_eq_false `o],λz=>e (by injection z with z1;injection z1)⟩
   ·exact .inr (.inr ⟨by rw[decide_eq_true q],by rw[decide_eq_false `o],λz=>e (by injection z with z1;injection z1)⟩)
 |str x h ih=>
  cases h2 with|str y h'=>
  rw[mD,mD];by_cases e:x=y
  ·subst e;rw[if_pos rfl,if_pos rfl];rcases ih h' with⟨q1,q2,q3⟩|q|⟨q1,q2,q3⟩
   ·exact .inl ⟨q1,q2,λz=>q3 (by injection z)⟩
   ·exact .inr (.inl (by rw[q]))
   ·exact .inr (.inr ⟨q1,q2,λz=>q3 (by injection z)⟩)
  ·rw[if_neg e,if_neg (λz=>e z.symm)];rcases xS x.cps.toList y.cps.toList with q|q|q
   ·exact .inl ⟨by rw[decide_eq_true q],by rw[decide_eq_false λz=>md _ (gK q z)],λz=>e (by injection z with z1;injection z1)⟩
   ·exact absurd (wJ q) e
   ·exact .inr (.inr ⟨by rw[decide_eq_true q],by rw[decide_eq_false λz=>md _ (gK q z)],λz=>e (by injection z with z1;injection z1)⟩)
theorem nG{σ:a8}{a b c:List D}(h1:Sh σ a)(h2:Sh σ b)(h3:Sh σ c)(q:cw a b=some true)(q':cw b c=some true):cw a c=some true:=by
 induction h1 generalizing b c with
 |nil=>cases h2;rw[xU]at q;cases q
 |int i h ih=>
  cases h2 with|int j h'=>
  cases h3 with|int k h''=>
  rw[mz]at q q' ⊢;by_cases e:i=j
  ·subst e;rw[if_pos rfl]at q;by_cases e':i=k
   ·subst e';rw[if_pos rfl]at q' ⊢;exact ih h' h'' q q'
   ·rw[if_neg e']at q' ⊢;exact q'
  ·rw[if_neg e]at q;have q1:=of_decide_eq_true (Option.some.inj q);by_cases e':j=k
   ·subst e';rw[if_neg e,decide_eq_true q1]
   ·rw[if_neg e']at q';have q2:=of_decide_eq_true (Option.some.inj q');rw[if_neg `o,decide_eq_true `o]
 |str i h ih=>
  cases h2 with|str j h'=>
  cases h3 with|str k h''=>
  rw[mD]at q q' ⊢;by_cases e:i=j
  ·subst e;rw[if_pos rfl]at q;by_cases e':i=k
   ·subst e';rw[if_pos rfl]at q' ⊢;exact ih h' h'' q q'
   ·rw[if_neg e']at q' ⊢;exact q'
  ·rw[if_neg e]at q;have q1:=of_decide_eq_true (Option.some.inj q);by_cases e':j=k
   ·subst e';rw[if_neg e,decide_eq_true q1]
   ·rw[if_neg e']at q';have q2:=of_decide_eq_true (Option.some.inj q');rw[if_neg (show¬i=k from λz=>by rw[z]at q1;exact md _ (gK q1 q2)),decide_eq_true (gK q1 q2)]
theorem xk{σ:a8}{a b:List D}(h:Sh σ a)(h':Sh σ b)(q:cw a b=some true):cw b a=some false:=by
 rcases lr h h' with⟨_,q2,_⟩|e|⟨_,q2,_⟩
 ·exact q2
 ·subst e;rw[jq h]at q;cases q
 ·rw[q2]at q;cases q
noncomputable def kLt(a b:List D):Bool:=cw a b==some true
theorem A8{a b:List D}:kLt a b=true↔cw a b=some true:=by unfold kLt;simp
section
variable{α:Type}
noncomputable def kU(key:α->List D)(x:α):List α->List α
 |[]=>[x]
 |y::ys=>if kLt (key x) (key y)then x::y::ys else y::kU key x ys
noncomputable def bN(key:α->List D):List α->List α
 |[]=>[]
 |x::xs=>kU key x (bN key xs)
theorem jQ(key:α->List D)(x:α):∀ys:List α,(kU key x ys).Perm (x::ys)
 |[]=>.refl _
 |y::ys=>by
  unfold kU;split
  ·exact .refl _
  ·exact(List.Perm.cons y (jQ key x ys)).trans (.swap x y ys)
theorem bo(key:α->List D):∀xs:List α,(bN key xs).Perm xs
 |[]=>.refl _
 |x::xs=>(jQ key x _).trans (.cons x (bo key xs))
noncomputable def rW(key:α->List D)(xs:List α):Prop:=xs.Pairwise λx y=>cw (key x) (key y)=some true
theorem qx{key:α->List D}{σ:a8}{x:α}(hx:Sh σ (key x)):∀{ys:List α},(∀y∈ys,Sh σ (key y)/\key x≠key y)->rW key ys->rW key (kU key x ys)
 |[],_,_=>List.pairwise_singleton _ _
 |y::ys,h,p=>by
  have p':=List.pairwise_cons.mp p;obtain⟨hy,ne⟩:=h y IB;unfold kU;split
  ·rename_i q;have q:=A8.mp q;refine List.pairwise_cons.mpr ⟨λz hz=>?_,p⟩;rcases List.mem_cons.mp hz with rfl|hz
   ·exact q
   ·exact nG hx hy (h z (IC _ hz)).1 q (p'.1 z hz)
  ·rename_i q;have q:cw (key y) (key x)=some true:=by
    rcases lr hx hy with⟨z,_⟩|z|⟨z,_⟩
    ·exact absurd (A8.mpr z) q
    ·exact absurd z ne
    ·exact z
   refine List.pairwise_cons.mpr ⟨λz hz=>?_,qx hx (λz hz=>h z (IC _ hz)) p'.2⟩;rcases List.mem_cons.mp ((jQ key x ys).mem_iff.mp hz)with rfl|hz
   ·exact q
   ·exact p'.1 z hz
theorem nu{key:α->List D}{σ:a8}:∀{xs:List α},(∀x∈xs,Sh σ (key x))->xs.Pairwise (λx y=>key x≠key y)->rW key (bN key xs)
 |[],_,_=>List.Pairwise.nil
 |x::xs,h,p=>by
  have p':=List.pairwise_cons.mp p;refine qx (h x IB) (λy hy=>?_) (nu (λy hy=>h y (IC _ hy)) p'.2);have hy:=(bo key xs).mem_iff.mp hy;exact⟨h y (IC _ hy),p'.1 y hy⟩
theorem tJ{key:α->List D}{σ:a8}:∀{xs ys:List α},(∀x∈xs,Sh σ (key x))->rW key xs->rW key ys->xs.Perm ys->xs=ys
 |[],ys,_,_,_,e=>(List.perm_nil.mp e.symm).symm
 |x::xs,[],_,_,_,e=>List.perm_nil.mp e
 |x::xs,y::ys,h,p,q,e=>by
  have p':=List.pairwise_cons.mp p;have q':=List.pairwise_cons.mp q;have exy:x=y:=by
   rcases List.mem_cons.mp (e.mem_iff.mp IB)with z|z
   ·exact z
   ·have w1:=q'.1 x z;rcases List.mem_cons.mp (e.symm.mem_iff.mp IB)with z'|z'
    ·exact z'.symm
    ·have w2:=p'.1 y z'
     have:=xk (h x IB) (h y (IC _ z')) w2
     rw[w1]at this;cases this
  subst exy;rw[tJ (λz hz=>h z (IC _ hz)) p'.2 q'.2 (List.Perm.cons_inv e)]
theorem wj{key:α->List D}{σ:a8}{xs ys:List α}(h:∀x∈xs,Sh σ (key x))(p:xs.Pairwise λx y=>key x≠key y)(q:rW key ys)(e:ys.Perm xs):bN key xs=ys:=
 tJ (λx hx=>h x ((bo key xs).mem_iff.mp hx)) (nu h p) q ((bo key xs).trans e.symm)
noncomputable def rank(ks:List (List D))(i:Nat):Nat:=(ks.filter λk=>kLt k (ks.getD i [])).length
theorem oY{ks:List (List D)}{σ:a8}(h:∀k∈ks,Sh σ k){i j:Nat}(hi:i<ks.length)(hj:j<ks.length):decide (rank ks i<rank ks j)=kLt (ks.getD i []) (ks.getD j []):=by
 have gi:ks.getD i []=ks[i]:=by simp[hi]
 have gj:ks.getD j []=ks[j]:=by simp[hj]
 have mono:∀a b:List D,Sh σ a->Sh σ b->cw a b=some true->∀l:List (List D),(∀k∈l,Sh σ k)->(l.filter λk=>kLt k a).length<=(l.filter λk=>kLt k b).length/\(a∈l->(l.filter λk=>kLt k a).length<(l.filter λk=>kLt k b).length):=by
  intro a b ha hb hab l
  induction l with
  |nil=>exact λ_=>⟨IJ _,λz=>nomatch z⟩
  |cons k l ih=>
   intro hl;obtain⟨i1,i2⟩:=ih λz hz=>hl z (IC _ hz);have hk:=hl k IB;by_cases q:kLt k a=true
   ·have q':kLt k b=true:=A8.mpr (nG hk ha hb (A8.mp q) hab);rw[JX (p:=λk=>kLt k a) q,JX (p:=λk=>kLt k b) q',Jl,Jl];refine⟨by omega,λz=>?_⟩;rcases List.mem_cons.mp z with rfl|z
    ·rw[A8,jq ha]at q;cases q
    ·have:=i2 z;omega
   ·rw[JY (p:=λk=>kLt k a) q];by_cases q':kLt k b=true
    ·rw[JX (p:=λk=>kLt k b) q',Jl];exact⟨by omega,λ_=>by omega⟩
    ·rw[JY (p:=λk=>kLt k b) q'];refine⟨i1,λz=>?_⟩;rcases List.mem_cons.mp z with rfl|z
     ·exact absurd (A8.mpr hab) q'
     ·exact i2 z
 unfold rank;rw[gi,gj];have hi':=h _ (JZ hi);have hj':=h _ (JZ hj);rcases lr hi' hj' with⟨z,_⟩|z|⟨z,z',_⟩
 ·rw[A8.mpr z];exact decide_eq_true ((mono _ _ hi' hj' z ks h).2 (JZ hi))
 ·rw[z]
  have:kLt ks[j] ks[j]=false:=by unfold kLt;rw[jq hj'];rfl
  rw[this];exact decide_eq_false (Iu _)
 ·have e:kLt ks[i] ks[j]=false:=by unfold kLt;rw[z'];rfl
  rw[e];exact decide_eq_false (Nat.not_lt.mpr (mono _ _ hj' hi' z ks h).1)
end
section
variable{cmp:Nat->Nat->(Bool->cF)->cF}{r:Nat->Nat}{N:Nat}
noncomputable def bC(cmp:Nat->Nat->(Bool->cF)->cF)(r:Nat->Nat)(N:Nat)(s:Mf):Prop:=∀(i j:Nat)(C:Bool->cF),i<N->j<N->C (decide (r i<r j)) s->cmp i j C s
noncomputable def PM(N:Nat)(p:Array Nat):Prop:=p.Perm (List.toArray (List.range N))
theorem PM.size{p:Array Nat}(h:PM N p):p.size=N:=by
 have:=h.size_eq;simpa using this
theorem PM.lt{p:Array Nat}(h:PM N p){i:Nat}(hi:i<N):p.getD i 0<N:=by
 have hs:=h.size;have e:p.getD i 0=p[i]'`o:=by simp[Array.getD,hs,hi]
 rw[e];have m:p[i]'`o∈p:=Array.getElem_mem _
 have:=(h.mem_iff (a:=p[i]'`o)).mp m
 simpa using this
theorem PM.rev{p:Array Nat}(h:PM N p)(i j:Nat):PM N (Nb p i j):=(mirror_perm p i j _).trans h
noncomputable abbrev Rk(r:Nat->Nat)(p:Array Nat)(i:Nat):Nat:=r (p.getD i 0)
theorem oX{p:Array Nat}{i j:Nat}(hj:j<=p.size)(k:Nat):Rk r (Nb p i j) k=if i<=k/\k<j then Rk r p (i+j-1-k)else Rk r p k:=by
 have e:=getElem?_mirror_all (xs:=p) (i:=i) (j:=j) hj k;have g:∀(q:Array Nat)(k:Nat),q.getD k 0=(q[k]?).getD 0:=λq k=>by simp
 show r ((Nb p i j).getD k 0)=_;rw[g];show r (((mirror p i j ((j-i)/2))[k]?).getD 0)=_;rw[e];split
 ·show _=r (p.getD _ 0);rw[g]
 ·show _=r (p.getD _ 0);rw[g]
theorem sJ{p:Array Nat}{src d:Nat}(hs:src<p.size)(hd:d<=src)(k:Nat):Rk r (bubble p src d) k=if k=src-d then Rk r p src else if src-d<k/\k<=src then Rk r p (k-1)else Rk r p k:=by
 have e:=getElem?_bubble (xs:=p) hs d hd k;have g:∀(q:Array Nat)(k:Nat),q.getD k 0=(q[k]?).getD 0:=λq k=>by simp
 show r ((bubble p src d).getD k 0)=_;rw[g,e];split
 ·show _=r (p.getD _ 0);rw[g]
 ·split
  ·show _=r (p.getD _ 0);rw[g]
  ·show _=r (p.getD _ 0);rw[g]
noncomputable def Up(r:Nat->Nat)(p:Array Nat)(k:Nat):Prop:=∀i j,i<=j->j<k->Rk r p i<=Rk r p j
variable{s:Mf}
end
end TG
namespace TG
open PySem PySem.Spec PyProof.Rows PySem.W L2
noncomputable def dH:Bool->Nc->Array Nc->Nat->Nat->Nat->StateT Nf Sem (Option Nat):=sortPriv% PySem.Builtin.gallop
noncomputable def lU:Array Nc->Array Nc->StateT Nf Sem (Array Nc):=sortPriv% PySem.Builtin.mergeLo
noncomputable def lR:Array Nc->Array Nc->StateT Nf Sem (Array Nc):=sortPriv% PySem.Builtin.mergeHi
noncomputable abbrev setG(st:Nf)(g:Nat):Nf:=SortSt.mk' (kindOf st) (arrOf st) (pendingOf st) g (failedOf st)
noncomputable def qy(left:Bool)(key:Nc)(arr:Array Nc)(i:Nat):StateT Nf Sem (Option Bool):=do
 let x<-elem' arr i
 if left then lt' x key else return(<-lt' key x).map (!·)
noncomputable def oK(left:Bool)(key:Nc)(arr:Array Nc)(base n lo hi:Nat):StateT Nf Sem (Option Nat):=do
 let mut lo:=lo
 let mut hi:=hi
 for _ in[0:n]do
  if lo>=hi then break
  let m:=lo+(hi-lo)/2
  let some more<-qy left key arr (base+m)|return none
  if more then lo:=m+1 else hi:=m
 return some hi
theorem rB(left:Bool)(key:Nc)(arr:Array Nc)(base n hint:Nat):dH left key arr base n hint=(do
 let some right<-qy left key arr (base+hint)|return none
 if right then
  let mut lastofs:=0
  let mut ofs:=1
  for _ in[0:n]do
   if ofs>=n-hint then break
   let some more<-qy left key arr (base+(hint+ofs))|return none
   if !more then break
   lastofs:=ofs
   ofs:=2*ofs+1
  oK left key arr base n (hint+lastofs+1) (hint+min ofs (n-hint))
 else
  let mut lastofs:=0
  let mut ofs:=1
  for _ in[0:n]do
   if ofs>=hint+1 then break
   let some found<-qy left key arr (base+(hint-ofs))|return none
   if found then break
   lastofs:=ofs
   ofs:=2*ofs+1
  oK left key arr base n (hint+1-min ofs (hint+1)) (hint-lastofs)):=rfl
section
variable{prog:Mh}{w:Mg}{A:Mo}{E:aD}{s:Mf}{left:Bool}{key:Nc}{arr:Array Nc}{base n hint:Nat}{P:Nat->Bool}{st:Nf}{Q:Option Nat->Nf->Prop}
theorem nN(hb:∀i,i<n->∀Q':Option Bool->Nf->Prop,Q' (some (P i)) st->wpS `g A E s (qy left key arr (base+i)) Q' st)
  (hm:∀i j,i<=j->j<n->P j=true->P i=true) (h:∀k,k<=n->(∀i,i<k->P i=true)->(∀i,k<=i->i<n->P i=false)->Q (some k) st)
  {lo hi:Nat} (h1:lo<=hi) (h2:hi<=n) (hl:∀i,i<lo->P i=true) (hr:∀i,hi<=i->i<n->P i=false):wpS `g A E s (oK left key arr base n lo hi) Q st:=by
 unfold oK;dsimp only;refine Ng (Nh (Ni (I:=λx c st'=>st'=st/\∃l r,c=(none,l,r)/\l<=r/\r<=n/\r-l<=n-x/\(∀i,i<l->P i=true)/\∀i,r<=i->i<n->P i=false)
  (Q:=λc st'=>st'=st/\∃l,c=(none,l,l)/\l<=n/\(∀i,i<l->P i=true)/\∀i,l<=i->i<n->P i=false) ?step ?fin ⟨rfl,lo,hi,rfl,h1,h2,by omega,hl,hr⟩) ?post)
 case post=>
  rintro c st' ⟨rfl,l,rfl,a,b,d⟩;exact Nj (h l a b d)
 case fin=>
  rintro c st' ⟨rfl,l,r,rfl,a,b,d,e,f⟩
  have:l=r:=by omega
  subst this;exact⟨rfl,l,rfl,b,e,f⟩
 case step=>
  rintro x c st' _ hx ⟨rfl,l,r,rfl,a,b,d,e,f⟩;dsimp only;by_cases z:l>=r
  ·rw[if_pos z]
   have:l=r:=(by omega);subst this;exact Nj ⟨rfl,l,rfl,b,e,f⟩
  ·rw[if_neg z];refine Ng (hb (l+(r-l)/2) `o _ ?_);cases q:P (l+(r-l)/2)with
   |true=>
    simp only[if_true];exact Nj ⟨rfl,_,r,rfl,by omega,b,by omega,λi hi=>hm i _ `o `o q,f⟩
   |false=>
    simp only[Jt,if_false];refine Nj ⟨rfl,l,_,rfl,by omega,by omega,by omega,e,λi h1 h2=>?_⟩;cases y:P i with
    |false=>rfl
    |true=>rw[hm _ i h1 h2 y]at q;cases q
theorem vL(hb:∀i,i<n->∀Q':Option Bool->Nf->Prop,Q' (some (P i)) st->wpS `g A E s (qy left key arr (base+i)) Q' st)
  (hm:∀i j,i<=j->j<n->P j=true->P i=true) (hh:hint<n) (h:∀k,k<=n->(∀i,i<k->P i=true)->(∀i,k<=i->i<n->P i=false)->Q (some k) st):
  wpS `g A E s (dH left key arr base n hint) Q st:=by
 have hf:∀i j,i<=j->j<n->P i=false->P j=false:=λi j a b c=>by
  cases y:P j with
  |false=>rfl
  |true=>rw[hm _ j a b y]at c;cases c
 rw[rB];refine Ng (hb hint hh _ ?_);cases q:P hint with
 |true=>
  simp only[if_true];refine Ng (Nh (Ni (I:=λx c st'=>st'=st/\∃l o,c=(none,l,o)/\l<o/\x<o/\hint+l<n/\P (hint+l)=true)
   (Q:=λc st'=>st'=st/\∃l o,c=(none,l,o)/\l<o/\hint+l<n/\P (hint+l)=true/\(n-hint<=o\/P (hint+o)=false)) ?step ?fin ⟨rfl,0,1,rfl,by omega,by omega,by omega,q⟩) ?post)
  case post=>
   rintro c st' ⟨rfl,l,o,rfl,a,b,d,e⟩;dsimp only;refine nN hb hm h `o `o (λi hi=>hm i _ `o b d) λi h1 h2=>?_;rcases e with e|e
   ·omega
   ·exact hf _ i `o h2 e
  case fin=>
   rintro c st' ⟨rfl,l,o,rfl,a,b,d,e⟩;exact⟨rfl,l,o,rfl,a,d,e,.inl `o⟩
  case step=>
   rintro x c st' _ hx ⟨rfl,l,o,rfl,a,b,d,e⟩;dsimp only;by_cases z:o>=n-hint
   ·rw[if_pos z];exact Nj ⟨rfl,l,o,rfl,a,d,e,.inl z⟩
   ·rw[if_neg z];refine Ng (hb (hint+o) `o _ ?_);cases y:P (hint+o)with
    |false=>
     simp only[J1,if_true];exact Nj ⟨rfl,l,o,rfl,a,d,e,.inr y⟩
    |true=>
     simp only[J3,Jt,if_false];exact Nj ⟨rfl,o,2*o+1,rfl,by omega,by omega,by omega,y⟩
 |false=>
  simp only[Jt,if_false];refine Ng (Nh (Ni (I:=λx c st'=>st'=st/\∃l o,c=(none,l,o)/\l<o/\x<o/\l<=hint/\P (hint-l)=false)
   (Q:=λc st'=>st'=st/\∃l o,c=(none,l,o)/\l<o/\l<=hint/\P (hint-l)=false/\(hint+1<=o\/P (hint-o)=true)) ?step ?fin ⟨rfl,0,1,rfl,by omega,by omega,by omega,q⟩) ?post)
  case post=>
   rintro c st' ⟨rfl,l,o,rfl,a,b,d,e⟩;dsimp only;refine nN hb hm h `o `o (λi hi=>?_) λi h1 h2=>hf _ i h1 h2 d;rcases e with e|e
   ·omega
   ·exact hm i (hint-o) `o `o e
  case fin=>
   rintro c st' ⟨rfl,l,o,rfl,a,b,d,e⟩;exact⟨rfl,l,o,rfl,a,d,e,.inl `o⟩
  case step=>
   rintro x c st' _ hx ⟨rfl,l,o,rfl,a,b,d,e⟩;dsimp only;by_cases z:o>=hint+1
   ·rw[if_pos z];exact Nj ⟨rfl,l,o,rfl,a,d,e,.inl z⟩
   ·rw[if_neg z];refine Ng (hb (hint-o) `o _ ?_);cases y:P (hint-o)with
    |true=>
     simp only[if_true];exact Nj ⟨rfl,l,o,rfl,a,d,e,.inr y⟩
    |false=>
     simp only[Jt,if_false];exact Nj ⟨rfl,o,2*o+1,rfl,by omega,by omega,by omega,y⟩
end
structure Jn(R:Nat->Nat->Prop)(B0 out a b:aT):Prop where
 so:out.Pairwise R
 sa:a.Pairwise R
 sb:b.Pairwise R
 la:∀x∈out,∀y∈a,R x y
 lb:∀x∈out,∀y∈b,R x y
 pm:(out++(a++b)).Perm B0
section
variable{R:Nat->Nat->Prop}{B0 out a b a1 a2 b1 b2:aT}
theorem Jn.swap(h:Jn R B0 out a b):Jn R B0 out b a:=⟨h.so,h.sb,h.sa,h.lb,h.la,(List.Perm.append_left _ List.perm_append_comm).trans h.pm⟩
theorem Jn.takeA(h:Jn R B0 out (a1++a2) b)(q:∀x∈a1,∀y∈b,R x y):Jn R B0 (out++a1) a2 b:=by
 obtain⟨s1,s2,s3⟩:=List.pairwise_append.mp h.sa;refine⟨List.pairwise_append.mpr ⟨h.so,s1,λx hx y hy=>h.la x hx y (IE _ hy)⟩,s2,h.sb,λx hx y hy=>?_,λx hx y hy=>?_,?_⟩
 ·rcases List.mem_append.mp hx with z|z
  ·exact h.la x z y (IK _ hy)
  ·exact s3 x z y hy
 ·rcases List.mem_append.mp hx with z|z
  ·exact h.lb x z y hy
  ·exact q x z y hy
 ·have:=h.pm
  rwa [JQ,<-JQ,<-JQ]at *
theorem Jn.takeB(h:Jn R B0 out a (b1++b2))(q:∀x∈b1,∀y∈a,R x y):Jn R B0 (out++b1) a b2:=(h.swap.takeA q).swap
theorem Jn.done(h:Jn R B0 out a b)(q:∀x∈a,∀y∈b,R x y):(out++a++b).Pairwise R/\(out++a++b).Perm B0:=by
 refine⟨?_,by rw[JQ];exact h.pm⟩;refine List.pairwise_append.mpr ⟨List.pairwise_append.mpr ⟨h.so,h.sa,h.la⟩,h.sb,λx hx y hy=>?_⟩;rcases List.mem_append.mp hx with z|z
 ·exact h.lb x z y hy
 ·exact q x z y hy
end
section
variable{prog:Mh}{w:Mg}{A:Mo}{E:aD}{s:Mf}{κ:Nk}{it:Array Nc}{r:Nat->Nat}{N:Nat}
theorem jC{i j:Nat}(hc:`j)(hi:i<N)(hj:j<N){st:Nf}(hk:kindOf st=κ){Q:Option Bool->Nf->Prop}(h:Q (some (decide (r i<r j))) st):wpS `g A E s (lt' (Nn it i) (Nn it j)) Q st:=by
 rw[lt'_eq];refine Ng (Np ?_);rw[hk];refine Ng (Nq (Nr (Mt (hc i j (λc s'=>s'=s/\c=decide (r i<r j)) hi hj ⟨rfl,rfl⟩) ?_ λ_ _ e=>e.elim)));rintro c s' ⟨rfl,rfl⟩;exact⟨rfl,Nj h⟩
theorem aH{q:Array Nat}{i:Nat}(hi:i<q.size){st:Nf}{Q:Nc->Nf->Prop}(h:Q (Nn it (q.getD i 0)) st):wpS `g A E s (elem' (q.map (Nn it)) i) Q st:=by
 rw[elem'_eq];have e:q.getD i 0=q[i]:=by simp[Array.getD,hi]
 rw[e]at h;have g:(q.map (Nn it))[i]?=some (Nn it q[i]):=by simp[hi]
 rw[g];exact Nj h
noncomputable def pY(r:Nat->Nat)(left:Bool)(k x:Nat):Bool:=if left then decide (r x<r k)else !decide (r k<r x)
theorem xE{left:Bool}{k:Nat}{q:Array Nat}{i:Nat}(hc:`j)(hk:k<N)(hi:i<q.size)(hq:∀x∈q.toList,x<N){st:Nf}(hs:kindOf st=κ){Q:Option Bool->Nf->Prop}
  (h:Q (some (pY r left k (q.getD i 0))) st):wpS `g A E s (qy left (Nn it k) (q.map (Nn it)) i) Q st:=by
 have hx:q.getD i 0<N:=hq _ (by
  have e:q.getD i 0=q[i]:=by simp[Array.getD,hi]
  rw[e];simp)
 unfold qy;refine Ng (aH hi ?_);cases left with
 |true=>
  simp only[if_true];exact jC hc hx hk hs h
 |false=>
  simp only[Jt,if_false];exact Ng (jC hc hk hx hs (Nj h))
theorem iu{left:Bool}{k:Nat}{q:Array Nat}{base n hint:Nat}(hc:`j)(hk:k<N)(hn:base+n<=q.size)(hh:hint<n)(hq:∀x∈q.toList,x<N)
  (hs:∀i j,i<=j->j<n->r (q.getD (base+i) 0)<=r (q.getD (base+j) 0)) {st:Nf} (hst:kindOf st=κ) {Q:Option Nat->Nf->Prop}
  (h:∀m,m<=n->(∀i,i<m->pY r left k (q.getD (base+i) 0)=true)->(∀i,m<=i->i<n->pY r left k (q.getD (base+i) 0)=false)->Q (some m) st):wpS `g A E s (dH left (Nn it k) (q.map (Nn it)) base n hint) Q st:=by
 refine vL (P:=λi=>pY r left k (q.getD (base+i) 0)) (λi hi Q' hQ=>xE hc hk `o hq hst hQ) (λi j hij hj hb=>?_) hh h;have z:=hs i j hij hj;unfold pY at hb ⊢;cases left with
 |true=>simp only[if_true,decide_eq_true_eq]at hb ⊢;omega
 |false=>simp only[Jt,if_false,J4,decide_eq_false_iff_not]at hb ⊢;omega
end
noncomputable def jy:Nat->StateT Nf Sem Unit:=sortPriv% PySem.Builtin.setMinGallop
theorem fY(g:Nat):jy g=modify (λs=>setG s g):=rfl
noncomputable abbrev o0(a b out:Array Nc)(ia ib:Nat):Array Nc:=out++a.extract ia a.size++b.extract ib b.size
noncomputable abbrev yc(a b out:Array Nc)(ia ib:Nat):Array Nc:=out++b.extract ib b.size++a.extract ia a.size
noncomputable abbrev S6:=Option (Array Nc)×Array Nc×Nat×Nat×Nat×Nat
noncomputable abbrev S7:=Option (Array Nc)×Array Nc×Nat×Nat×Nat×Nat×Nat
noncomputable abbrev S5:=Option (Array Nc)×Array Nc×Nat×Nat×Nat
noncomputable def lo1(a b:Array Nc)(mg:Nat)(out:Array Nc)(ia ib ac bc:Nat):StateT Nf Sem (ForInStep S6):=do
 let y<-elem' b ib
 let x<-elem' a ia
 let c<-lt' y x
 match c with
 |some bw=>
  if bw=true then do
   let y<-elem' b ib
   if(ib+1==b.size)=true then pure (.done (some (o0 a b (out.push y) ia (ib+1)),out.push y,ia,ib+1,0,bc+1))
   else if bc+1>=mg then pure (.done (none,out.push y,ia,ib+1,0,bc+1))else pure (.yield (none,out.push y,ia,ib+1,0,bc+1))
  else do
   let x<-elem' a ia
   if(ia+1+1==a.size)=true then pure (.done (some (yc a b (out.push x) (ia+1) ib),out.push x,ia+1,ib,ac+1,0))
   else if ac+1>=mg then pure (.done (none,out.push x,ia+1,ib,ac+1,0))else pure (.yield (none,out.push x,ia+1,ib,ac+1,0))
 |_=>pure (.done (some (o0 a b out ia ib),out,ia,ib,ac,bc))
noncomputable def zK(a b:Array Nc)(mg ac bc:Nat)(out:Array Nc)(ia ib:Nat):StateT Nf Sem (ForInStep S7):=do
 let x<-elem' a ia
 if(ia+1+1==a.size)=true then pure (.done (some (yc a b (out.push x) (ia+1) ib),out.push x,ia+1,ib,mg,ac,bc))
 else if(decide (ac<7)&&decide (bc<7))=true then pure (.done (none,out.push x,ia+1,ib,mg,ac,bc))else pure (.yield (none,out.push x,ia+1,ib,mg,ac,bc))
noncomputable def AC(a b:Array Nc)(mg ac bc:Nat)(out:Array Nc)(ia ib:Nat):StateT Nf Sem (ForInStep S7):=do
 let y<-elem' b ib
 if(ib+1==b.size)=true then pure (.done (some (o0 a b (out.push y) ia (ib+1)),out.push y,ia,ib+1,mg,ac,bc))
 else do
  let x<-elem' a ia
  let c<-dH true x b (ib+1) (b.size-(ib+1)) 0
  match c with
  |some k=>
   if k>0 then
    if(ib+1+k==b.size)=true then pure (.done (some (o0 a b (out.push y++b.extract (ib+1) (ib+1+k)) ia (ib+1+k)),out.push y++b.extract (ib+1) (ib+1+k),ia,ib+1+k,mg,ac,k))
    else zK a b mg ac k (out.push y++b.extract (ib+1) (ib+1+k)) ia (ib+1+k)
   else zK a b mg ac k (out.push y) ia (ib+1)
  |_=>pure (.done (some (o0 a b (out.push y) ia (ib+1)),out.push y,ia,ib+1,mg,ac,bc))
noncomputable def yx(a b:Array Nc)(mg ac bc:Nat)(out:Array Nc)(ia ib:Nat):StateT Nf Sem (ForInStep S7):=do
 jy mg
 let y<-elem' b ib
 let c<-dH false y a ia (a.size-ia) 0
 match c with
 |some k=>
  if k>0 then
   if(ia+k+1==a.size)=true then pure (.done (some (yc a b (out++a.extract ia (ia+k)) (ia+k) ib),out++a.extract ia (ia+k),ia+k,ib,mg,k,bc))
   else if(ia+k==a.size)=true then pure (.done (some (o0 a b (out++a.extract ia (ia+k)) (ia+k) ib),out++a.extract ia (ia+k),ia+k,ib,mg,k,bc))
   else AC a b mg k bc (out++a.extract ia (ia+k)) (ia+k) ib
  else AC a b mg k bc out ia ib
 |_=>pure (.done (some (o0 a b out ia ib),out,ia,ib,mg,ac,bc))
noncomputable def GJ(a b:Array Nc)(out:Array Nc)(ia ib mg:Nat):StateT Nf Sem (ForInStep S5):=do
 let c<-forIn [0:a.size+b.size] ((none,out,ia,ib,0,0):S6) λ_ c=>lo1 a b mg c.2.1 c.2.2.1 c.2.2.2.1 c.2.2.2.2.1 c.2.2.2.2.2
 match c.1 with
 |some r=>pure (.done (some r,c.2.1,c.2.2.1,c.2.2.2.1,mg))
 |none=>do
  liftM (rule "list.sort.gallop")
  let d<-forIn [0:a.size+b.size] ((none,c.2.1,c.2.2.1,c.2.2.2.1,mg+1,c.2.2.2.2.1,c.2.2.2.2.2):S7) λ_ c=>if c.2.2.2.2.1>1 then yx a b (c.2.2.2.2.1-1) c.2.2.2.2.2.1 c.2.2.2.2.2.2 c.2.1 c.2.2.1 c.2.2.2.1 else yx a b c.2.2.2.2.1 c.2.2.2.2.2.1 c.2.2.2.2.2.2 c.2.1 c.2.2.1 c.2.2.2.1
  match d.1 with
  |some r=>pure (.done (some r,d.2.1,d.2.2.1,d.2.2.2.1,d.2.2.2.2.1))
  |none=>do
   jy (d.2.2.2.2.1+1)
   pure (.yield (none,d.2.1,d.2.2.1,d.2.2.2.1,d.2.2.2.2.1+1))
theorem rh(a b:Array Nc):lU a b=(do
 rule "list.sort.merge-lo"
 let y<-elem' b 0
 if(1==b.size)=true then pure (o0 a b #[y] 0 1)
 else if(0+1==a.size)=true then pure (yc a b #[y] 0 1)
 else do
  let st<-get
  let c<-forIn [0:a.size+b.size] ((none,#[y],0,1,gallopOf st):S5) λ_ c=>GJ a b c.2.1 c.2.2.1 c.2.2.2.1 c.2.2.2.2
  match c.1 with
  |some r=>pure r
  |none=>liftM (unsupported "internal:list.sort.merge-bound":Sem (Array Nc))):=by kernel_rfl
section
variable{f:Nat->Nc}{a b out:Array Nat}{i j:Nat}
theorem dZ(x:Nat):(out.map f).push (f x)=(out.push x).map f:=by simp
theorem cI:(a.map f).extract i j=(a.extract i j).map f:=by simp
theorem dC:a.map f++b.map f=(a++b).map f:=by simp
theorem dX:(a.extract i j).toList=(a.toList.drop i).take (j-i):=by simp
theorem lq:(a.extract i a.size).toList=a.toList.drop i:=by
 rw[dX,J5];rw[Jb,Array.length_toList];exact IJ _
theorem tY(h:i<a.size):a.toList.drop i=a.getD i 0::a.toList.drop (i+1):=by
 have e:a.getD i 0=a[i]:=by simp[Array.getD,h]
 rw[e,JO (by rw[Array.length_toList];exact h)];simp
theorem m8(k:Nat)(h:i+k<a.size):(a.toList.drop i)[k]?=some (a.getD (i+k) 0):=by
 have e:a.getD (i+k) 0=a[i+k]:=by simp[Array.getD,h]
 rw[e,JI];simp[h]
theorem mem_getD(h:i<a.size):a.getD i 0∈a.toList:=by
 have e:a.getD i 0=a[i]:=by simp[Array.getD,h]
 rw[e];simp
theorem fz{k x:Nat}(h:x∈(a.toList.drop i).take k)(hk:i+k<=a.size):∃m,m<k/\x=a.getD (i+m) 0:=by
 obtain⟨m,hm,rfl⟩:=J6 h;rw[IQ,Jb,Array.length_toList]at hm;refine⟨m,by omega,?_⟩;rw[J7]
 have:=m8 (a:=a) (i:=i) m `o
 rw[Jz (by rw[Jb,Array.length_toList];omega)]at this;exact Option.some.inj this
theorem gr{x:Nat}(h:x∈a.toList.drop i):∃m,i<=m/\m<a.size/\x=a.getD m 0:=by
 obtain⟨m,hm,rfl⟩:=J6 h;rw[Jb,Array.length_toList]at hm;refine⟨i+m,by omega,by omega,?_⟩
 have:=m8 (a:=a) (i:=i) m `o
 rw[Jz (by rw[Jb,Array.length_toList];omega)]at this;exact Option.some.inj this
theorem qP(k:Nat):a.toList.drop i=(a.toList.drop i).take k++a.toList.drop (i+k):=by
 have e:a.toList.drop (i+k)=(a.toList.drop i).drop k:=by rw[J8]
 rw[e];exact(J9 k _).symm
end
noncomputable def v9(r:Nat->Nat)(a:Array Nat):Prop:=∀i j,i<=j->j<a.size->r (a.getD i 0)<=r (a.getD j 0)
theorem v9.pw{r:Nat->Nat}{a:Array Nat}(h:v9 r a):a.toList.Pairwise λx y=>r x<=r y:=by
 refine List.pairwise_iff_getElem.mpr λi j hi hj hij=>?_;rw[Array.length_toList]at hi hj
 have:=h i j `o hj
 have e1:a.getD i 0=a[i]:=by simp[Array.getD,hi]
 have e2:a.getD j 0=a[j]:=by simp[Array.getD,hj]
 rw[e1,e2]at this
 simpa using this
section
variable{prog:Mh}{w:Mg}{A:Mo}{E:aD}{s:Mf}{κ:Nk}{it:Array Nc}{r:Nat->Nat}{N:Nat}{a b:Array Nat}{B0:aT}
noncomputable def eE(it:Array Nc)(r:Nat->Nat)(B0:aT)(x:Array Nc):Prop:=∃q:Array Nat,x=q.map (Nn it)/\(q.toList.Pairwise λx y=>r x<=r y)/\q.toList.Perm B0
noncomputable abbrev JL(r:Nat->Nat)(B0:aT)(a b out:Array Nat)(ia ib:Nat):Prop:=Jn (λx y=>r x<=r y) B0 out.toList (a.toList.drop ia) (b.toList.drop ib)
theorem lW{out:Array Nat}{ia ib:Nat}(h:JL r B0 a b out ia ib)(hb:ib=b.size\/ia=a.size):eE it r B0 (o0 (a.map (Nn it)) (b.map (Nn it)) (out.map (Nn it)) ia ib):=by
 refine⟨out++a.extract ia a.size++b.extract ib b.size,?_,?_⟩
 ·show _++_++_=_;rw[Array.size_map,Array.size_map,cI,cI,dC,dC]
 ·rw[Array.toList_append,Array.toList_append,lq,lq];refine h.done λx hx y hy=>?_;rcases hb with z|z
  ·rw[z,Ka (by rw[Array.length_toList];exact IJ _)]at hy;cases hy
  ·rw[z,Ka (by rw[Array.length_toList];exact IJ _)]at hx;cases hx
theorem pj{out:Array Nat}{ia ib:Nat}(h:JL r B0 a b out ia ib)(ha:ia+1=a.size)(hl:∀y∈b.toList,r y<=r (a.getD (a.size-1) 0)):eE it r B0 (yc (a.map (Nn it)) (b.map (Nn it)) (out.map (Nn it)) ia ib):=by
 refine⟨out++b.extract ib b.size++a.extract ia a.size,?_,?_⟩
 ·show _++_++_=_;rw[Array.size_map,Array.size_map,cI,cI,dC,dC]
 ·rw[Array.toList_append,Array.toList_append,lq,lq];refine h.swap.done λx hx y hy=>?_;obtain⟨m,m1,m2,rfl⟩:=gr hy;rw[show m=a.size-1 by omega];exact hl x (Kb hx)
theorem JL.pushB{out:Array Nat}{ia ib:Nat}(h:JL r B0 a b out ia ib)(ua:v9 r a)(h1:ia<a.size)(h2:ib<b.size)(q:r (b.getD ib 0)<=r (a.getD ia 0)):JL r B0 a b (out.push (b.getD ib 0)) ia (ib+1):=by
 have h:Jn _ _ _ _ _:=h;rw[tY h2]at h
 have:=Jn.takeB (b1:=[b.getD ib 0]) h λx hx y hy=>by
  rw[List.mem_singleton.mp hx];obtain⟨m,m1,m2,rfl⟩:=gr hy;exact Iy q (ua _ _ m1 m2)
 show Jn _ _ _ _ _;rw[Array.toList_push];exact this
theorem JL.pushA{out:Array Nat}{ia ib:Nat}(h:JL r B0 a b out ia ib)(ub:v9 r b)(h1:ia<a.size)(h2:ib<b.size)(q:r (a.getD ia 0)<=r (b.getD ib 0)):JL r B0 a b (out.push (a.getD ia 0)) (ia+1) ib:=by
 have h:Jn _ _ _ _ _:=h;rw[tY h1]at h
 have:=Jn.takeA (a1:=[a.getD ia 0]) h λx hx y hy=>by
  rw[List.mem_singleton.mp hx];obtain⟨m,m1,m2,rfl⟩:=gr hy;exact Iy q (ub _ _ m1 m2)
 show Jn _ _ _ _ _;rw[Array.toList_push];exact this
theorem JL.partA{out:Array Nat}{ia ib k:Nat}(h:JL r B0 a b out ia ib)(ub:v9 r b)(h1:ia+k<=a.size)(h2:ib<b.size)(q:∀i,i<k->r (a.getD (ia+i) 0)<=r (b.getD ib 0)):JL r B0 a b (out++a.extract ia (ia+k)) (ia+k) ib:=by
 have h:Jn _ _ _ _ _:=h;rw[qP k]at h
 have:=Jn.takeA h λx hx y hy=>by
  obtain⟨i,hi,rfl⟩:=fz hx h1;obtain⟨m,m1,m2,rfl⟩:=gr hy;exact Iy (q i hi) (ub _ _ m1 m2)
 show Jn _ _ _ _ _;rw[Array.toList_append,dX,Kc];exact this
theorem JL.partB{out:Array Nat}{ia ib k:Nat}(h:JL r B0 a b out ia ib)(ua:v9 r a)(h1:ia<a.size)(h2:ib+k<=b.size)(q:∀i,i<k->r (b.getD (ib+i) 0)<=r (a.getD ia 0)):JL r B0 a b (out++b.extract ib (ib+k)) ia (ib+k):=by
 have h:Jn _ _ _ _ _:=h;rw[qP (a:=b) k]at h
 have:=Jn.takeB h λx hx y hy=>by
  obtain⟨i,hi,rfl⟩:=fz hx h2;obtain⟨m,m1,m2,rfl⟩:=gr hy;exact Iy (q i hi) (ua _ _ m1 m2)
 show Jn _ _ _ _ _;rw[Array.toList_append,dX,Kc];exact this
end
section
variable{prog:Mh}{w:Mg}{A:Mo}{E:aD}{s:Mf}{κ:Nk}{it:Array Nc}{r:Nat->Nat}{N:Nat}{a b:Array Nat}{B0:aT}{st:Nf}
structure vS(r:Nat->Nat)(N:Nat)(a b:Array Nat):Prop where
 ua:v9 r a
 ub:v9 r b
 na:∀x∈a.toList,x<N
 nb:∀x∈b.toList,x<N
noncomputable def G6(it:Array Nc)(r:Nat->Nat)(B0:aT)(a b:Array Nat)(m:Nat)(c:S6):Prop:=∃out ia ib ac bc,c=(none,out.map (Nn it),ia,ib,ac,bc)/\JL r B0 a b out ia ib/\ia+1<a.size/\ib<b.size/\m<=ia+ib
noncomputable def G7(it:Array Nc)(r:Nat->Nat)(B0:aT)(a b:Array Nat)(m:Nat)(c:S7):Prop:=∃out ia ib mg ac bc,c=(none,out.map (Nn it),ia,ib,mg,ac,bc)/\JL r B0 a b out ia ib/\ia+1<a.size/\ib<b.size/\m<=ia+ib
theorem CB(hc:`j)(T:vS r N a b)(hk:kindOf st=κ)(hl:∀y∈b.toList,r y<=r (a.getD (a.size-1) 0)){out:Array Nat}{ia ib mg ac bc:Nat}(h:JL r B0 a b out ia ib)(h1:ia+1<a.size)(h2:ib<b.size):
  wpS `g A E s (lo1 (a.map (Nn it)) (b.map (Nn it)) mg (out.map (Nn it)) ia ib ac bc) (λc st'=>st'=st/\match c with
   |.done c=>(∃x,c.1=some x/\eE it r B0 x)\/G6 it r B0 a b (ia+ib+1) c
   |.yield c=>G6 it r B0 a b (ia+ib+1) c) st:=by
 unfold lo1;simp only[Array.size_map];refine Ng (aH h2 (Ng (aH `o (Ng (jC hc (T.nb _ (mem_getD h2)) (T.na _ (mem_getD `o)) hk ?_)))));by_cases z:r (b.getD ib 0)<r (a.getD ia 0)
 ·simp only[decide_eq_true z,if_true];refine Ng (aH h2 ?_);have J:=h.pushB T.ua `o h2 (Iz z);rw[dZ];by_cases y:ib+1=b.size
  ·rw[if_pos (by simpa using y)];exact Nj ⟨rfl,.inl ⟨_,rfl,lW J (.inl y)⟩⟩
  ·rw[if_neg (by simpa using y)];have g:∀x1 x2,G6 it r B0 a b (ia+ib+1) (none,(out.push (b.getD ib 0)).map (Nn it),ia,ib+1,x1,x2):=λx1 x2=>⟨_,_,_,_,_,rfl,J,h1,by omega,by omega⟩
   by_cases x:bc+1>=mg
   ·rw[if_pos x];exact Nj ⟨rfl,.inr (g _ _)⟩
   ·rw[if_neg x];exact Nj ⟨rfl,g _ _⟩
 ·simp only[decide_eq_false z,Jt,if_false];refine Ng (aH `o ?_);have J:=h.pushA T.ub `o h2 (Jh z);rw[dZ];by_cases y:ia+1+1=a.size
  ·rw[if_pos (by simpa using y)];exact Nj ⟨rfl,.inl ⟨_,rfl,pj J y hl⟩⟩
  ·rw[if_neg (by simpa using y)];have g:∀x1 x2,G6 it r B0 a b (ia+ib+1) (none,(out.push (a.getD ia 0)).map (Nn it),ia+1,ib,x1,x2):=λx1 x2=>⟨_,_,_,_,_,rfl,J,by omega,h2,by omega⟩
   by_cases x:ac+1>=mg
   ·rw[if_pos x];exact Nj ⟨rfl,.inr (g _ _)⟩
   ·rw[if_neg x];exact Nj ⟨rfl,g _ _⟩
noncomputable abbrev E7(it : Array Nc)(r : Nat -> Nat)(B0 : aT)(a b : Array Nat)(m : Nat)(st : Nf)(c : ForInStep S7)(st' : Nf): Prop := (∃ g, st' = setG st g) /\ match c with
      |.done c=>(∃x,c.1=some x/\eE it r B0 x)\/G7 it r B0 a b m c
      |.yield c=>G7 it r B0 a b m c
theorem tK(hl:∀y∈b.toList,r y<=r (a.getD (a.size-1) 0))(T:vS r N a b){g m:Nat}{out:Array Nat}{ia ib mg ac bc:Nat}(h:JL r B0 a b out ia ib)(h1:ia+1<a.size)(h2:ib<b.size)(q:r (a.getD ia 0)<=r (b.getD ib 0))(hm:m<=ia+ib+1):
  wpS `g A E s (zK (a.map (Nn it)) (b.map (Nn it)) mg ac bc (out.map (Nn it)) ia ib) (E7 it r B0 a b m st) (setG st g):=by
 unfold zK;simp only[Array.size_map];refine Ng (aH `o ?_);have J:=h.pushA T.ub `o h2 q;rw[dZ];by_cases y:ia+1+1=a.size
 ·rw[if_pos (by simpa using y)];exact Nj ⟨⟨g,rfl⟩,.inl ⟨_,rfl,pj J y hl⟩⟩
 ·rw[if_neg (by simpa using y)];have gg:∀x0 x1 x2,G7 it r B0 a b m (none,(out.push (a.getD ia 0)).map (Nn it),ia+1,ib,x0,x1,x2):=λx0 x1 x2=>⟨_,_,_,_,_,_,rfl,J,by omega,h2,by omega⟩
  split
  ·exact Nj ⟨⟨g,rfl⟩,.inr (gg _ _ _)⟩
  ·exact Nj ⟨⟨g,rfl⟩,gg _ _ _⟩
theorem tm(hc:`j)(hk:kindOf st=κ)(hl:∀y∈b.toList,r y<=r (a.getD (a.size-1) 0))(T:vS r N a b){g m:Nat}{out:Array Nat}{ia ib mg ac bc:Nat}(h:JL r B0 a b out ia ib)(h1:ia+1<a.size)(h2:ib<b.size)(q:r (b.getD ib 0)<=r (a.getD ia 0))(hm:m<=ia+ib+1):
  wpS `g A E s (AC (a.map (Nn it)) (b.map (Nn it)) mg ac bc (out.map (Nn it)) ia ib) (E7 it r B0 a b m st) (setG st g):=by
 unfold AC;simp only[Array.size_map];refine Ng (aH h2 ?_);have J:=h.pushB T.ua `o h2 q;rw[dZ];by_cases y:ib+1=b.size
 ·rw[if_pos (by simpa using y)];exact Nj ⟨⟨g,rfl⟩,.inl ⟨_,rfl,lW J (.inl y)⟩⟩
 ·rw[if_neg (by simpa using y)];refine Ng (aH `o (Ng (iu (st:=setG st g) (k:=a.getD ia 0) (base:=ib+1) (n:=b.size-(ib+1)) (hint:=0) hc (T.na _ (mem_getD `o)) `o `o T.nb (λi j hij hj=>T.ub _ _ `o `o) hk λk k1 k2 k3=>?_)));dsimp only;rw[cI,dC];have lt:∀i,i<k->r (b.getD (ib+1+i) 0)<r (a.getD ia 0):=λi hi=>by simpa [pY]using k2 i hi
  have J2:=J.partB T.ua `o `o λi hi=>Iz (lt i hi);have ge:ib+1+k<b.size->r (a.getD ia 0)<=r (b.getD (ib+1+k) 0):=λz=>by
   have:=k3 k (IJ _) `o
   simpa [pY]using this
  by_cases x:k>0
  ·rw[if_pos x];by_cases v:ib+1+k=b.size
   ·rw[if_pos (by simpa using v)];exact Nj ⟨⟨g,rfl⟩,.inl ⟨_,rfl,lW J2 (.inl v)⟩⟩
   ·rw[if_neg (by simpa using v)];exact tK hl T J2 h1 `o (ge `o) `o
  ·rw[if_neg x];have k0:k=0:=(by omega);subst k0;exact tK hl T J h1 `o (ge `o) `o
theorem Bt(hc:`j)(hk:kindOf st=κ)(hl:∀y∈b.toList,r y<=r (a.getD (a.size-1) 0))(T:vS r N a b){g m:Nat}{out:Array Nat}{ia ib mg ac bc:Nat}(h:JL r B0 a b out ia ib)(h1:ia+1<a.size)(h2:ib<b.size)(hm:m<=ia+ib+1):
  wpS `g A E s (yx (a.map (Nn it)) (b.map (Nn it)) mg ac bc (out.map (Nn it)) ia ib) (E7 it r B0 a b m st) (setG st g):=by
 unfold yx;simp only[Array.size_map];rw[fY];refine Ng (Nt ?_);show wpS _ _ _ _ _ _ (setG st mg);refine Ng (aH h2 (Ng (iu (st:=setG st mg) (base:=ia) (n:=a.size-ia) (hint:=0) hc (T.nb _ (mem_getD h2)) `o `o T.na (λi j hij hj=>T.ua _ _ `o `o) hk λk k1 k2 k3=>?_)));dsimp only;rw[cI,dC];have le:∀i,i<k->r (a.getD (ia+i) 0)<=r (b.getD ib 0):=λi hi=>by simpa [pY]using k2 i hi
 have J:=h.partA T.ub `o h2 le;have gt:ia+k<a.size->r (b.getD ib 0)<r (a.getD (ia+k) 0):=λz=>by
  have:=k3 k (IJ _) `o
  simpa [pY]using this
 by_cases x:k>0
 ·rw[if_pos x];by_cases v:ia+k+1=a.size
  ·rw[if_pos (by simpa using v)];exact Nj ⟨⟨mg,rfl⟩,.inl ⟨_,rfl,pj J v hl⟩⟩
  ·rw[if_neg (by simpa using v)];by_cases u:ia+k=a.size
   ·rw[if_pos (by simpa using u)];exact Nj ⟨⟨mg,rfl⟩,.inl ⟨_,rfl,lW J (.inr u)⟩⟩
   ·rw[if_neg (by simpa using u)];exact tm hc hk hl T J `o h2 (Iz (gt `o)) `o
 ·rw[if_neg x];have k0:k=0:=by omega
  subst k0;exact tm hc hk hl T h h1 h2 (Iz (gt `o)) `o
noncomputable def G5(it:Array Nc)(r:Nat->Nat)(B0:aT)(a b:Array Nat)(m:Nat)(c:S5):Prop:=∃out ia ib mg,c=(none,out.map (Nn it),ia,ib,mg)/\JL r B0 a b out ia ib/\ia+1<a.size/\ib<b.size/\m<=ia+ib
theorem D5(hc:`j)(hk:kindOf st=κ)(hl:∀y∈b.toList,r y<=r (a.getD (a.size-1) 0))(T:vS r N a b){g:Nat}{out:Array Nat}{ia ib mg:Nat}(h:JL r B0 a b out ia ib)(h1:ia+1<a.size)(h2:ib<b.size):
  wpS `g A E s (GJ (a.map (Nn it)) (b.map (Nn it)) (out.map (Nn it)) ia ib mg) (λc st'=>(∃g,st'=setG st g)/\match c with
   |.done c=>∃x,c.1=some x/\eE it r B0 x
   |.yield c=>G5 it r B0 a b (ia+ib+1) c) (setG st g):=by
 unfold GJ;simp only[Array.size_map];refine Ng (Nh (Ni (I:=λx c st'=>st'=setG st g/\G6 it r B0 a b (ia+ib+x) c)
  (Q:=λc st'=>st'=setG st g/\((∃x,c.1=some x/\eE it r B0 x)\/G6 it r B0 a b (ia+ib+1) c)) ?step ?fin ⟨rfl,_,_,_,_,_,rfl,h,h1,h2,by omega⟩) ?post)
 case fin=>
  rintro c st' ⟨rfl,o,i,j,x,y,rfl,J,j1,j2,j3⟩;omega
 case step=>
  rintro x c st' _ hx ⟨rfl,o,i,j,x1,x2,rfl,J,j1,j2,j3⟩;dsimp only;refine Nh (CB (st:=setG st g) hc T hk hl J j1 j2) λc st' q=>?_;obtain⟨rfl,q⟩:=q;have up:∀{m n:Nat}{c:S6},n<=m->G6 it r B0 a b m c->G6 it r B0 a b n c:=λhmn zq=>zq.elim λo zq=>zq.elim λi zq=>zq.elim λj zq=>zq.elim λx zq=>zq.elim λy zq=>zq.elim λe zq=>zq.elim λJ zq=>zq.elim λa1 zq=>zq.elim λa2 a3=>⟨o,i,j,x,y,e,J,a1,a2,Iy hmn a3⟩
  cases c with
  |done c=>
   rcases q with q|q
   ·exact⟨rfl,.inl q⟩
   ·exact⟨rfl,.inr (up `o q)⟩
  |yield c=>exact⟨rfl,up `o q⟩
 case post=>
  rintro c st' ⟨rfl,q⟩;rcases q with⟨x,e,F⟩|⟨o,i,j,x1,x2,rfl,J,j1,j2,j3⟩
  ·rw[e];exact Nj ⟨⟨g,rfl⟩,x,rfl,F⟩
  ·dsimp only;refine Ng (Nq (M6 ⟨rfl,?_⟩));refine Ng (Nh (Ni (I:=λx c st'=>(∃g,st'=setG st g)/\G7 it r B0 a b (ia+ib+1) c)
    (Q:=λc st'=>(∃g,st'=setG st g)/\((∃x,c.1=some x/\eE it r B0 x)\/G7 it r B0 a b (ia+ib+1) c)) ?_ (λc st' q=>⟨q.1,.inr q.2⟩) ⟨⟨g,rfl⟩,_,_,_,_,_,_,rfl,J,j1,j2,j3⟩) ?_)
   ·rintro x c st' _ hx ⟨⟨g',rfl⟩,o,i,j,x0,x1,x2,rfl,J,j1,j2,j3⟩;dsimp only;have fi:∀mg,wpS `g A E s (yx (a.map (Nn it)) (b.map (Nn it)) mg x1 x2 (o.map (Nn it)) i j) (E7 it r B0 a b (ia+ib+1) st) (setG st g'):=λmg=>Bt hc hk hl T J j1 j2 `o;by_cases z:x0>1
    ·rw[if_pos z];exact Nh (fi _) λc st' q=>by cases c<;>exact q
    ·rw[if_neg z];exact Nh (fi _) λc st' q=>by cases c<;>exact q
   ·rintro c st' ⟨⟨g',rfl⟩,q⟩;rcases q with⟨x,e,F⟩|⟨o,i,j,x0,x1,x2,rfl,J,j1,j2,j3⟩
    ·rw[e];exact Nj ⟨⟨g',rfl⟩,x,rfl,F⟩
    ·dsimp only;rw[fY];exact Ng (Nt (Nj ⟨⟨_,rfl⟩,_,_,_,_,rfl,J,j1,j2,j3⟩))
theorem sj(hc:`j)(hk:kindOf st=κ)(hl:∀y∈b.toList,r y<=r (a.getD (a.size-1) 0))(hf:r (b.getD 0 0)<=r (a.getD 0 0))(T:vS r N a b)(a0:0<a.size)(b0:0<b.size){Q:Array Nc->Nf->Prop}
  (h:∀x g,eE it r (a.toList++b.toList) x->Q x (setG st g)):wpS `g A E s (lU (a.map (Nn it)) (b.map (Nn it))) Q st:=by
 have J0:JL r (a.toList++b.toList) a b #[] 0 0:=⟨List.Pairwise.nil,T.ua.pw,T.ub.pw,(λx hx=>nomatch hx),(λx hx=>nomatch hx),List.Perm.refl _⟩
 have J:=J0.pushB T.ua a0 b0 hf;have e1:#[Nn it (b.getD 0 0)]=((#[]:Array Nat).push (b.getD 0 0)).map (Nn it):=by simp
 have hg:∀x,eE it r (a.toList++b.toList) x->Q x st:=λx F=>h x (gallopOf st) F;rw[rh];refine Ng (Nq (M6 ⟨rfl,?_⟩));refine Ng (aH b0 ?_);simp only[Array.size_map];rw[e1];by_cases y:1=b.size
 ·rw[if_pos (by simpa using y)];exact Nj (hg _ (lW J (.inl y)))
 ·rw[if_neg (by simpa using y)];by_cases z:0+1=a.size
  ·rw[if_pos (by simpa using z)];exact Nj (hg _ (pj J z hl))
  ·rw[if_neg (by simpa using z)];refine Ng (Np ?_);refine Ng (Nh (Ni (I:=λx c st'=>(∃g,st'=setG st g)/\G5 it r (a.toList++b.toList) a b (x+1) c)
    (Q:=λc st'=>(∃g,st'=setG st g)/\∃x,c.1=some x/\eE it r (a.toList++b.toList) x) ?step ?fin ⟨⟨gallopOf st,rfl⟩,_,_,_,_,rfl,J,by omega,by omega,by omega⟩) ?post)
   case fin=>
    rintro c st' ⟨_,o,i,j,x,rfl,J,j1,j2,j3⟩;omega
   case step=>
    rintro x c st' _ hx ⟨⟨g,rfl⟩,o,i,j,x1,rfl,J,j1,j2,j3⟩;dsimp only;refine Nh (D5 hc hk hl T J j1 j2) λc st' q=>?_;obtain⟨q1,q⟩:=q;cases c with
    |done c=>exact⟨q1,q⟩
    |yield c=>
     obtain⟨o,i,j,x,e,J,a1,a2,a3⟩:=q;exact⟨q1,o,i,j,x,e,J,a1,a2,by omega⟩
   case post=>
    rintro c st' ⟨⟨g,rfl⟩,x,e,F⟩;rw[e];exact Nj (h x g F)
end
noncomputable abbrev o5(a b out:Array Nc)(na nb:Nat):Array Nc:=a.extract 0 na++b.extract 0 nb++out.reverse
noncomputable abbrev yA(a b out:Array Nc)(na nb:Nat):Array Nc:=b.extract 0 nb++a.extract 0 na++out.reverse
noncomputable abbrev H6:=Option (Array Nc)×Nat×Nat×Array Nc×Nat×Nat
noncomputable abbrev H7:=Option (Array Nc)×Nat×Nat×Array Nc×Nat×Nat×Nat
noncomputable abbrev H5:=Option (Array Nc)×Nat×Nat×Array Nc×Nat
noncomputable def hi1(a b:Array Nc)(mg:Nat)(na nb:Nat)(out:Array Nc)(ac bc:Nat):StateT Nf Sem (ForInStep H6):=do
 let y<-elem' b (nb-1)
 let x<-elem' a (na-1)
 let c<-lt' y x
 match c with
 |some aw=>
  if aw=true then do
   let x<-elem' a (na-1)
   if(na-1==0)=true then pure (.done (some (o5 a b (out.push x) (na-1) nb),na-1,nb,out.push x,ac+1,0))
   else if ac+1>=mg then pure (.done (none,na-1,nb,out.push x,ac+1,0))else pure (.yield (none,na-1,nb,out.push x,ac+1,0))
  else do
   let y<-elem' b (nb-1)
   if(nb-1==1)=true then pure (.done (some (yA a b (out.push y) na (nb-1)),na,nb-1,out.push y,0,bc+1))
   else if bc+1>=mg then pure (.done (none,na,nb-1,out.push y,0,bc+1))else pure (.yield (none,na,nb-1,out.push y,0,bc+1))
 |_=>pure (.done (some (o5 a b out na nb),na,nb,out,ac,bc))
noncomputable def AQ(a b:Array Nc)(mg ac bc:Nat)(na nb:Nat)(out:Array Nc):StateT Nf Sem (ForInStep H7):=do
 let x<-elem' a (na-1)
 if(na-1==0)=true then pure (.done (some (o5 a b (out.push x) (na-1) nb),na-1,nb,out.push x,mg,ac,bc))
 else if(decide (ac<7)&&decide (bc<7))=true then pure (.done (none,na-1,nb,out.push x,mg,ac,bc))else pure (.yield (none,na-1,nb,out.push x,mg,ac,bc))
noncomputable def AF(a b:Array Nc)(mg ac bc:Nat)(na nb:Nat)(out:Array Nc):StateT Nf Sem (ForInStep H7):=do
 let y<-elem' b (nb-1)
 if(nb-1==1)=true then pure (.done (some (yA a b (out.push y) na (nb-1)),na,nb-1,out.push y,mg,ac,bc))
 else do
  let x<-elem' a (na-1)
  let c<-dH true x b 0 (nb-1) (nb-1-1)
  match c with
  |some k=>
   if nb-1-k>0 then
    if(k==1)=true then pure (.done (some (yA a b (out.push y++(b.extract k (nb-1)).reverse) na k),na,k,out.push y++(b.extract k (nb-1)).reverse,mg,ac,nb-1-k))
    else if(k==0)=true then pure (.done (some (o5 a b (out.push y++(b.extract k (nb-1)).reverse) na k),na,k,out.push y++(b.extract k (nb-1)).reverse,mg,ac,nb-1-k))
    else AQ a b mg ac (nb-1-k) na k (out.push y++(b.extract k (nb-1)).reverse)
   else AQ a b mg ac (nb-1-k) na (nb-1) (out.push y)
  |_=>pure (.done (some (o5 a b (out.push y) na (nb-1)),na,nb-1,out.push y,mg,ac,bc))
noncomputable def wL(a b:Array Nc)(mg ac bc:Nat)(na nb:Nat)(out:Array Nc):StateT Nf Sem (ForInStep H7):=do
 jy mg
 let y<-elem' b (nb-1)
 let c<-dH false y a 0 na (na-1)
 match c with
 |some k=>
  if na-k>0 then
   if(k==0)=true then pure (.done (some (o5 a b (out++(a.extract k na).reverse) k nb),k,nb,out++(a.extract k na).reverse,mg,na-k,bc))
   else AF a b mg (na-k) bc k nb (out++(a.extract k na).reverse)
  else AF a b mg (na-k) bc na nb out
 |_=>pure (.done (some (o5 a b out na nb),na,nb,out,mg,ac,bc))
noncomputable def hi0(a b:Array Nc)(na nb:Nat)(out:Array Nc)(mg:Nat):StateT Nf Sem (ForInStep H5):=do
 let c<-forIn [0:a.size+b.size] ((none,na,nb,out,0,0):H6) λ_ c=>hi1 a b mg c.2.1 c.2.2.1 c.2.2.2.1 c.2.2.2.2.1 c.2.2.2.2.2
 match c.1 with
 |some r=>pure (.done (some r,c.2.1,c.2.2.1,c.2.2.2.1,mg))
 |none=>do
  liftM (rule "list.sort.gallop")
  let d<-forIn [0:a.size+b.size] ((none,c.2.1,c.2.2.1,c.2.2.2.1,mg+1,c.2.2.2.2.1,c.2.2.2.2.2):H7) λ_ c=>if c.2.2.2.2.1>1 then wL a b (c.2.2.2.2.1-1) c.2.2.2.2.2.1 c.2.2.2.2.2.2 c.2.1 c.2.2.1 c.2.2.2.1 else wL a b c.2.2.2.2.1 c.2.2.2.2.2.1 c.2.2.2.2.2.2 c.2.1 c.2.2.1 c.2.2.2.1
  match d.1 with
  |some r=>pure (.done (some r,d.2.1,d.2.2.1,d.2.2.2.1,d.2.2.2.2.1))
  |none=>do
   jy (d.2.2.2.2.1+1)
   pure (.yield (none,d.2.1,d.2.2.1,d.2.2.2.1,d.2.2.2.2.1+1))
theorem pX(a b:Array Nc):lR a b=(do
 rule "list.sort.merge-hi"
 let x<-elem' a (a.size-1)
 if(a.size-1==0)=true then pure (o5 a b #[x] (a.size-1) b.size)
 else if(b.size==1)=true then pure (yA a b #[x] (a.size-1) b.size)
 else do
  let st<-get
  let c<-forIn [0:a.size+b.size] ((none,a.size-1,b.size,#[x],gallopOf st):H5) λ_ c=>hi0 a b c.2.1 c.2.2.1 c.2.2.2.1 c.2.2.2.2
  match c.1 with
  |some r=>pure r
  |none=>liftM (unsupported "internal:list.sort.merge-bound":Sem (Array Nc))):=by kernel_rfl
section
variable{f:Nat->Nc}{a b out:Array Nat}{i j:Nat}
theorem oR:(a.map f).reverse=a.reverse.map f:=by simp
theorem ie:(a.extract 0 i).toList=a.toList.take i:=by simp
theorem xh(h:0<i)(hi:i<=a.size):(a.toList.take i).reverse=a.getD (i-1) 0::(a.toList.take (i-1)).reverse:=by
 have hj:i-1<a.size:=by omega
 have e:a.getD (i-1) 0=a[i-1]:=by simp[Array.getD,hj]
 have z:a.toList.take i=a.toList.take (i-1)++[a[i-1]]:=by
  have:=Kd (l:=a.toList) (i:=i-1) (by rw[Array.length_toList];exact hj)
  rw[show i-1+1=i by omega]at this;rw[this];simp
 rw[z,Ke,e];rfl
theorem nR(hk:i<=j):(a.toList.take j).reverse=((a.toList.drop i).take (j-i)).reverse++(a.toList.take i).reverse:=by
 rw[<-Ke,<-List.drop_take];congr 1
 have:=J9 i (a.toList.take j)
 rw[List.take_take,Nat.min_eq_left hk]at this;exact this.symm
theorem eP{x:Nat}(h:x∈(a.toList.take i).reverse)(hi:i<=a.size):∃m,m<i/\x=a.getD m 0:=by
 have h:=List.mem_reverse.mp h
 have:=fz (a:=a) (i:=0) (k:=i) (x:=x) (by simpa using h) `o
 obtain⟨m,hm,e⟩:=this;exact⟨m,hm,by rw[e,Kf]⟩
end
section
variable{prog:Mh}{w:Mg}{A:Mo}{E:aD}{s:Mf}{κ:Nk}{it:Array Nc}{r:Nat->Nat}{N:Nat}{a b:Array Nat}{B0:aT}{st:Nf}
noncomputable abbrev JH(r:Nat->Nat)(B0:aT)(a b out:Array Nat)(na nb:Nat):Prop:=Jn (λx y=>r y<=r x) B0 out.toList (a.toList.take na).reverse (b.toList.take nb).reverse
theorem lG{out:Array Nat}{na nb:Nat}(h:JH r B0 a b out na nb)(hb:na=0\/nb=0):eE it r B0 (o5 (a.map (Nn it)) (b.map (Nn it)) (out.map (Nn it)) na nb):=by
 refine⟨a.extract 0 na++b.extract 0 nb++out.reverse,?_,?_⟩
 ·show _++_++_=_;rw[cI,cI,oR,dC,dC]
 ·rw[Array.toList_append,Array.toList_append,ie,ie,Array.toList_reverse];obtain⟨d1,d2⟩:=h.swap.done λx hx y hy=>by
   rcases hb with z|z
   ·rw[z]at hy;cases hy
   ·rw[z]at hx;cases hx
  have e:(out.toList++(b.toList.take nb).reverse++(a.toList.take na).reverse).reverse=a.toList.take na++b.toList.take nb++out.toList.reverse:=by simp
  rw[<-e];exact⟨List.pairwise_reverse.mpr d1,(Kg _).trans d2⟩
theorem oA{out:Array Nat}{na nb:Nat}(h:JH r B0 a b out na nb)(hn:nb=1)(h0:0<b.size)(h1:na<=a.size)(hf:∀x∈a.toList,r (b.getD 0 0)<=r x):eE it r B0 (yA (a.map (Nn it)) (b.map (Nn it)) (out.map (Nn it)) na nb):=by
 refine⟨b.extract 0 nb++a.extract 0 na++out.reverse,?_,?_⟩
 ·show _++_++_=_;rw[cI,cI,oR,dC,dC]
 ·rw[Array.toList_append,Array.toList_append,ie,ie,Array.toList_reverse];obtain⟨d1,d2⟩:=h.done λx hx y hy=>by
   obtain⟨m,m1,rfl⟩:=eP hy `o;rw[show m=0 by omega];exact hf x (Kh (List.mem_reverse.mp hx))
  have e:(out.toList++(a.toList.take na).reverse++(b.toList.take nb).reverse).reverse=b.toList.take nb++a.toList.take na++out.toList.reverse:=by simp
  rw[<-e];exact⟨List.pairwise_reverse.mpr d1,(Kg _).trans d2⟩
theorem JH.pushA{out:Array Nat}{na nb:Nat}(h:JH r B0 a b out na nb)(ub:v9 r b)(h0:0<na)(h1:na<=a.size)(h2:nb<=b.size)(q:r (b.getD (nb-1) 0)<=r (a.getD (na-1) 0)):JH r B0 a b (out.push (a.getD (na-1) 0)) (na-1) nb:=by
 have h:Jn _ _ _ _ _:=h;rw[xh h0 h1]at h
 have:=Jn.takeA (a1:=[a.getD (na-1) 0]) h λx hx y hy=>by
  rw[List.mem_singleton.mp hx];obtain⟨m,m1,rfl⟩:=eP hy h2;exact Iy (ub _ _ `o `o) q
 show Jn _ _ _ _ _;rw[Array.toList_push];exact this
theorem JH.pushB{out:Array Nat}{na nb:Nat}(h:JH r B0 a b out na nb)(ua:v9 r a)(h0:0<nb)(h1:na<=a.size)(h2:nb<=b.size)(q:r (a.getD (na-1) 0)<=r (b.getD (nb-1) 0)):JH r B0 a b (out.push (b.getD (nb-1) 0)) na (nb-1):=by
 have h:Jn _ _ _ _ _:=h;rw[xh (a:=b) h0 h2]at h
 have:=Jn.takeB (b1:=[b.getD (nb-1) 0]) h λx hx y hy=>by
  rw[List.mem_singleton.mp hx];obtain⟨m,m1,rfl⟩:=eP hy h1;exact Iy (ua _ _ `o `o) q
 show Jn _ _ _ _ _;rw[Array.toList_push];exact this
theorem JH.partA{out:Array Nat}{na nb k:Nat}(h:JH r B0 a b out na nb)(ub:v9 r b)(hk:k<=na)(h1:na<=a.size)(h2:nb<=b.size)(q:∀i,k<=i->i<na->r (b.getD (nb-1) 0)<=r (a.getD i 0)):JH r B0 a b (out++(a.extract k na).reverse) k nb:=by
 have h:Jn _ _ _ _ _:=h;rw[nR hk]at h
 have:=Jn.takeA h λx hx y hy=>by
  obtain⟨i,hi,rfl⟩:=fz (List.mem_reverse.mp hx) `o;obtain⟨m,m1,rfl⟩:=eP hy h2;exact Iy (ub _ _ `o `o) (q _ `o `o)
 show Jn _ _ _ _ _;rw[Array.toList_append,Array.toList_reverse,dX];exact this
theorem JH.partB{out:Array Nat}{na nb k:Nat}(h:JH r B0 a b out na nb)(ua:v9 r a)(hk:k<=nb)(h1:na<=a.size)(h2:nb<=b.size)(q:∀i,k<=i->i<nb->r (a.getD (na-1) 0)<=r (b.getD i 0)):JH r B0 a b (out++(b.extract k nb).reverse) na k:=by
 have h:Jn _ _ _ _ _:=h;rw[nR (a:=b) hk]at h
 have:=Jn.takeB h λx hx y hy=>by
  obtain⟨i,hi,rfl⟩:=fz (List.mem_reverse.mp hx) `o;obtain⟨m,m1,rfl⟩:=eP hy h1;exact Iy (ua _ _ `o `o) (q _ `o `o)
 show Jn _ _ _ _ _;rw[Array.toList_append,Array.toList_reverse,dX];exact this
noncomputable def K6(it:Array Nc)(r:Nat->Nat)(B0:aT)(a b:Array Nat)(m:Nat)(c:H6):Prop:=∃out na nb ac bc,c=(none,na,nb,out.map (Nn it),ac,bc)/\JH r B0 a b out na nb/\0<na/\1<nb/\na<=a.size/\nb<=b.size/\na+nb+m<=a.size+b.size
noncomputable def K7(it:Array Nc)(r:Nat->Nat)(B0:aT)(a b:Array Nat)(m:Nat)(c:H7):Prop:=∃out na nb mg ac bc,c=(none,na,nb,out.map (Nn it),mg,ac,bc)/\JH r B0 a b out na nb/\0<na/\1<nb/\na<=a.size/\nb<=b.size/\na+nb+m<=a.size+b.size
theorem DG(hc:`j)(T:vS r N a b)(hk:kindOf st=κ)(hf:∀x∈a.toList,r (b.getD 0 0)<=r x){out:Array Nat}{na nb mg ac bc m:Nat}(h:JH r B0 a b out na nb)(h1:0<na)(h2:1<nb)(h3:na<=a.size)(h4:nb<=b.size)(hm:na+nb+m<=a.size+b.size):
  wpS `g A E s (hi1 (a.map (Nn it)) (b.map (Nn it)) mg na nb (out.map (Nn it)) ac bc) (λc st'=>st'=st/\match c with
   |.done c=>(∃x,c.1=some x/\eE it r B0 x)\/K6 it r B0 a b (m+1) c
   |.yield c=>K6 it r B0 a b (m+1) c) st:=by
 unfold hi1;refine Ng (aH `o (Ng (aH `o (Ng (jC hc (T.nb _ (mem_getD `o)) (T.na _ (mem_getD `o)) hk ?_)))));by_cases z:r (b.getD (nb-1) 0)<r (a.getD (na-1) 0)
 ·simp only[decide_eq_true z,if_true];refine Ng (aH `o ?_);have J:=h.pushA T.ub h1 h3 h4 (Iz z);rw[dZ];by_cases y:na-1=0
  ·rw[if_pos (by simpa using y)];exact Nj ⟨rfl,.inl ⟨_,rfl,lG J (.inl y)⟩⟩
  ·rw[if_neg (by simpa using y)];have g:∀x1 x2,K6 it r B0 a b (m+1) (none,na-1,nb,(out.push (a.getD (na-1) 0)).map (Nn it),x1,x2):=λx1 x2=>⟨_,_,_,_,_,rfl,J,by omega,by omega,by omega,by omega,by omega⟩
   by_cases x:ac+1>=mg
   ·rw[if_pos x];exact Nj ⟨rfl,.inr (g _ _)⟩
   ·rw[if_neg x];exact Nj ⟨rfl,g _ _⟩
 ·simp only[decide_eq_false z,Jt,if_false];refine Ng (aH `o ?_);have J:=h.pushB T.ua `o h3 h4 (Jh z);rw[dZ];by_cases y:nb-1=1
  ·rw[if_pos (by simpa using y)];exact Nj ⟨rfl,.inl ⟨_,rfl,oA J y `o h3 hf⟩⟩
  ·rw[if_neg (by simpa using y)];have g:∀x1 x2,K6 it r B0 a b (m+1) (none,na,nb-1,(out.push (b.getD (nb-1) 0)).map (Nn it),x1,x2):=λx1 x2=>⟨_,_,_,_,_,rfl,J,by omega,by omega,by omega,by omega,by omega⟩
   by_cases x:bc+1>=mg
   ·rw[if_pos x];exact Nj ⟨rfl,.inr (g _ _)⟩
   ·rw[if_neg x];exact Nj ⟨rfl,g _ _⟩
noncomputable abbrev F7(it : Array Nc)(r : Nat -> Nat)(B0 : aT)(a b : Array Nat)(m : Nat)(st : Nf)(c : ForInStep H7)(st' : Nf): Prop := (∃ g, st' = setG st g) /\ match c with
      |.done c=>(∃x,c.1=some x/\eE it r B0 x)\/K7 it r B0 a b m c
      |.yield c=>K7 it r B0 a b m c
theorem tu(T:vS r N a b){g m:Nat}{out:Array Nat}{na nb mg ac bc:Nat}(h:JH r B0 a b out na nb)(h1:0<na)(h2:1<nb)(h3:na<=a.size)(h4:nb<=b.size)(hm:na+nb+m<=a.size+b.size)(q:r (b.getD (nb-1) 0)<=r (a.getD (na-1) 0)):
  wpS `g A E s (AQ (a.map (Nn it)) (b.map (Nn it)) mg ac bc na nb (out.map (Nn it))) (F7 it r B0 a b m st) (setG st g):=by
 unfold AQ;refine Ng (aH `o ?_);have J:=h.pushA T.ub h1 h3 h4 q;rw[dZ];by_cases y:na-1=0
 ·rw[if_pos (by simpa using y)];exact Nj ⟨⟨g,rfl⟩,.inl ⟨_,rfl,lG J (.inl y)⟩⟩
 ·rw[if_neg (by simpa using y)];have gg:∀x0 x1 x2,K7 it r B0 a b m (none,na-1,nb,(out.push (a.getD (na-1) 0)).map (Nn it),x0,x1,x2):=λx0 x1 x2=>⟨_,_,_,_,_,_,rfl,J,by omega,by omega,by omega,by omega,by omega⟩
  split
  ·exact Nj ⟨⟨g,rfl⟩,.inr (gg _ _ _)⟩
  ·exact Nj ⟨⟨g,rfl⟩,gg _ _ _⟩
theorem tV(hc:`j)(hk:kindOf st=κ)(hf:∀x∈a.toList,r (b.getD 0 0)<=r x)(T:vS r N a b){g m:Nat}{out:Array Nat}{na nb mg ac bc:Nat}(h:JH r B0 a b out na nb)(h1:0<na)(h2:1<nb)(h3:na<=a.size)(h4:nb<=b.size)(hm:na+nb+m<=a.size+b.size)(q:r (a.getD (na-1) 0)<=r (b.getD (nb-1) 0)):
  wpS `g A E s (AF (a.map (Nn it)) (b.map (Nn it)) mg ac bc na nb (out.map (Nn it))) (F7 it r B0 a b m st) (setG st g):=by
 unfold AF;refine Ng (aH `o ?_);have J:=h.pushB T.ua `o h3 h4 q;rw[dZ];by_cases y:nb-1=1
 ·rw[if_pos (by simpa using y)];exact Nj ⟨⟨g,rfl⟩,.inl ⟨_,rfl,oA J y `o h3 hf⟩⟩
 ·rw[if_neg (by simpa using y)];refine Ng (aH `o (Ng (iu (st:=setG st g) (k:=a.getD (na-1) 0) (base:=0) (n:=nb-1) (hint:=nb-1-1) hc (T.na _ (mem_getD `o)) `o `o T.nb (λi j hij hj=>T.ub _ _ `o `o) hk λk k1 k2 k3=>?_)));simp only[Kf]at k2 k3;dsimp only;rw[cI,oR,dC];have ge:∀i,k<=i->i<nb-1->r (a.getD (na-1) 0)<=r (b.getD i 0):=λi hi hj=>by
   have:=k3 i hi hj
   simpa [pY]using this
  have lt:0<k->r (b.getD (k-1) 0)<r (a.getD (na-1) 0):=λz=>by
   have:=k2 (k-1) `o
   simpa [pY]using this
  have J2:=J.partB T.ua k1 h3 `o ge;by_cases x:nb-1-k>0
  ·rw[if_pos x];by_cases v:k=1
   ·rw[if_pos (by simpa using v)];exact Nj ⟨⟨g,rfl⟩,.inl ⟨_,rfl,oA J2 v `o h3 hf⟩⟩
   ·rw[if_neg (by simpa using v)];by_cases u:k=0
    ·rw[if_pos (by simpa using u)];exact Nj ⟨⟨g,rfl⟩,.inl ⟨_,rfl,lG J2 (.inr u)⟩⟩
    ·rw[if_neg (by simpa using u)];exact tu T J2 h1 `o h3 `o `o (Iz (lt `o))
  ·rw[if_neg x];have k0:k=nb-1:=(by omega);subst k0;exact tu T J h1 `o h3 `o `o (Iz (lt `o))
theorem Ba(hc:`j)(hk:kindOf st=κ)(hf:∀x∈a.toList,r (b.getD 0 0)<=r x)(T:vS r N a b){g m:Nat}{out:Array Nat}{na nb mg ac bc:Nat}(h:JH r B0 a b out na nb)(h1:0<na)(h2:1<nb)(h3:na<=a.size)(h4:nb<=b.size)(hm:na+nb+m<=a.size+b.size):
  wpS `g A E s (wL (a.map (Nn it)) (b.map (Nn it)) mg ac bc na nb (out.map (Nn it))) (F7 it r B0 a b m st) (setG st g):=by
 unfold wL;rw[fY];refine Ng (Nt ?_);show wpS _ _ _ _ _ _ (setG st mg);refine Ng (aH `o (Ng (iu (st:=setG st mg) (k:=b.getD (nb-1) 0) (base:=0) (n:=na) (hint:=na-1) hc (T.nb _ (mem_getD `o)) `o `o T.na (λi j hij hj=>T.ua _ _ `o `o) hk λk k1 k2 k3=>?_)));simp only[Kf]at k2 k3;dsimp only;rw[cI,oR,dC];have gt:∀i,k<=i->i<na->r (b.getD (nb-1) 0)<r (a.getD i 0):=λi hi hj=>by
  have:=k3 i hi hj
  simpa [pY]using this
 have le:0<k->r (a.getD (k-1) 0)<=r (b.getD (nb-1) 0):=λz=>by
  have:=k2 (k-1) `o
  simpa [pY]using this
 have J:=h.partA T.ub k1 h3 h4 λi hi hj=>Iz (gt i hi hj);by_cases x:na-k>0
 ·rw[if_pos x];by_cases u:k=0
  ·rw[if_pos (by simpa using u)];exact Nj ⟨⟨mg,rfl⟩,.inl ⟨_,rfl,lG J (.inl u)⟩⟩
  ·rw[if_neg (by simpa using u)];exact tV hc hk hf T J `o h2 `o h4 `o (le `o)
 ·rw[if_neg x];have k0:k=na:=by omega
  subst k0;exact tV hc hk hf T h h1 h2 h3 h4 hm (le `o)
noncomputable def K5(it:Array Nc)(r:Nat->Nat)(B0:aT)(a b:Array Nat)(m:Nat)(c:H5):Prop:=∃out na nb mg,c=(none,na,nb,out.map (Nn it),mg)/\JH r B0 a b out na nb/\0<na/\1<nb/\na<=a.size/\nb<=b.size/\na+nb+m<=a.size+b.size
theorem CC(hc:`j)(hk:kindOf st=κ)(hf:∀x∈a.toList,r (b.getD 0 0)<=r x)(T:vS r N a b){g m:Nat}{out:Array Nat}{na nb mg:Nat}(h:JH r B0 a b out na nb)(h1:0<na)(h2:1<nb)(h3:na<=a.size)(h4:nb<=b.size)(hm:na+nb+m<=a.size+b.size):
  wpS `g A E s (hi0 (a.map (Nn it)) (b.map (Nn it)) na nb (out.map (Nn it)) mg) (λc st'=>(∃g,st'=setG st g)/\match c with
   |.done c=>∃x,c.1=some x/\eE it r B0 x
   |.yield c=>K5 it r B0 a b (m+1) c) (setG st g):=by
 unfold hi0;simp only[Array.size_map];refine Ng (Nh (Ni (I:=λx c st'=>st'=setG st g/\K6 it r B0 a b (m+x) c)
  (Q:=λc st'=>st'=setG st g/\((∃x,c.1=some x/\eE it r B0 x)\/K6 it r B0 a b (m+1) c)) ?step ?fin ⟨rfl,_,_,_,_,_,rfl,h,h1,h2,h3,h4,by omega⟩) ?post)
 case fin=>
  rintro c st' ⟨rfl,o,i,j,x,y,rfl,J,j1,j2,j3,j4,j5⟩;omega
 case step=>
  rintro x c st' _ hx ⟨rfl,o,i,j,x1,x2,rfl,J,j1,j2,j3,j4,j5⟩;dsimp only;refine Nh (DG (st:=setG st g) hc T hk hf J j1 j2 j3 j4 j5) λc st' q=>?_;obtain⟨rfl,q⟩:=q;have up:∀{c:H6},K6 it r B0 a b (m+x+1) c->K6 it r B0 a b (m+1) c:=λzq=>zq.elim λo zq=>zq.elim λi zq=>zq.elim λj zq=>zq.elim λx zq=>zq.elim λy zq=>zq.elim λe zq=>zq.elim λJ zq=>zq.elim λa1 zq=>zq.elim λa2 zq=>zq.elim λa3 zq=>zq.elim λa4 a5=>⟨o,i,j,x,y,e,J,a1,a2,a3,a4,by omega⟩
  cases c with
  |done c=>
   rcases q with q|q
   ·exact⟨rfl,.inl q⟩
   ·exact⟨rfl,.inr (up q)⟩
  |yield c=>exact⟨rfl,q⟩
 case post=>
  rintro c st' ⟨rfl,q⟩;rcases q with⟨x,e,F⟩|⟨o,i,j,x1,x2,rfl,J,j1,j2,j3,j4,j5⟩
  ·rw[e];exact Nj ⟨⟨g,rfl⟩,x,rfl,F⟩
  ·dsimp only;refine Ng (Nq (M6 ⟨rfl,?_⟩));refine Ng (Nh (Ni (I:=λx c st'=>(∃g,st'=setG st g)/\K7 it r B0 a b (m+1) c)
    (Q:=λc st'=>(∃g,st'=setG st g)/\((∃x,c.1=some x/\eE it r B0 x)\/K7 it r B0 a b (m+1) c)) ?_ (λc st' q=>⟨q.1,.inr q.2⟩) ⟨⟨g,rfl⟩,_,_,_,_,_,_,rfl,J,j1,j2,j3,j4,j5⟩) ?_)
   ·rintro x c st' _ hx ⟨⟨g',rfl⟩,o,i,j,x0,x1,x2,rfl,J,j1,j2,j3,j4,j5⟩;dsimp only;have fi:∀mg,wpS `g A E s (wL (a.map (Nn it)) (b.map (Nn it)) mg x1 x2 i j (o.map (Nn it))) (F7 it r B0 a b (m+1) st) (setG st g'):=λmg=>Ba hc hk hf T J j1 j2 j3 j4 j5;by_cases z:x0>1
    ·rw[if_pos z];exact Nh (fi _) λc st' q=>by cases c<;>exact q
    ·rw[if_neg z];exact Nh (fi _) λc st' q=>by cases c<;>exact q
   ·rintro c st' ⟨⟨g',rfl⟩,q⟩;rcases q with⟨x,e,F⟩|⟨o,i,j,x0,x1,x2,rfl,J,j1,j2,j3,j4,j5⟩
    ·rw[e];exact Nj ⟨⟨g',rfl⟩,x,rfl,F⟩
    ·dsimp only;rw[fY];exact Ng (Nt (Nj ⟨⟨_,rfl⟩,_,_,_,_,rfl,J,j1,j2,j3,j4,j5⟩))
theorem rL(hc:`j)(hk:kindOf st=κ)(hl:∀y∈b.toList,r y<=r (a.getD (a.size-1) 0))(hf:∀x∈a.toList,r (b.getD 0 0)<=r x)(T:vS r N a b)(a0:0<a.size)(b0:0<b.size){Q:Array Nc->Nf->Prop}
  (h:∀x g,eE it r (a.toList++b.toList) x->Q x (setG st g)):wpS `g A E s (lR (a.map (Nn it)) (b.map (Nn it))) Q st:=by
 have J0:JH r (a.toList++b.toList) a b #[] a.size b.size:=by
  have e1:a.toList.take a.size=a.toList:=J5 (by rw[Array.length_toList];exact IJ _);have e2:b.toList.take b.size=b.toList:=J5 (by rw[Array.length_toList];exact IJ _);show Jn _ _ _ _ _;rw[e1,e2];exact⟨List.Pairwise.nil,List.pairwise_reverse.mpr T.ua.pw,List.pairwise_reverse.mpr T.ub.pw,(λx hx=>nomatch hx),(λx hx=>nomatch hx),(show(a.toList.reverse++b.toList.reverse).Perm _ from List.Perm.append (Kg _) (Kg _))⟩
 have J:=J0.pushA T.ub a0 (IJ _) (IJ _) (hl _ (mem_getD `o));have e1:#[Nn it (a.getD (a.size-1) 0)]=((#[]:Array Nat).push (a.getD (a.size-1) 0)).map (Nn it):=by simp
 have hg:∀x,eE it r (a.toList++b.toList) x->Q x st:=λx F=>h x (gallopOf st) F;rw[pX];refine Ng (Nq (M6 ⟨rfl,?_⟩));simp only[Array.size_map];refine Ng (aH `o ?_);rw[e1];by_cases y:a.size-1=0
 ·rw[if_pos (by simpa using y)];exact Nj (hg _ (lG J (.inl y)))
 ·rw[if_neg (by simpa using y)];by_cases z:b.size=1
  ·rw[if_pos (by simpa using z)];exact Nj (hg _ (oA J z b0 `o hf))
  ·rw[if_neg (by simpa using z)];refine Ng (Np ?_);refine Ng (Nh (Ni (I:=λx c st'=>(∃g,st'=setG st g)/\K5 it r (a.toList++b.toList) a b (x+1) c)
    (Q:=λc st'=>(∃g,st'=setG st g)/\∃x,c.1=some x/\eE it r (a.toList++b.toList) x) ?step ?fin ⟨⟨gallopOf st,rfl⟩,_,_,_,_,rfl,J,by omega,by omega,by omega,by omega,by omega⟩) ?post)
   case fin=>
    rintro c st' ⟨_,o,i,j,x,rfl,J,j1,j2,j3,j4,j5⟩;omega
   case step=>
    rintro x c st' _ hx ⟨⟨g,rfl⟩,o,i,j,x1,rfl,J,j1,j2,j3,j4,j5⟩;dsimp only;refine Nh (CC hc hk hf T J j1 j2 j3 j4 j5) λc st' q=>?_;obtain⟨q1,q⟩:=q;cases c with
    |done c=>exact⟨q1,q⟩
    |yield c=>exact⟨q1,q⟩
   case post=>
    rintro c st' ⟨⟨g,rfl⟩,x,e,F⟩;rw[e];exact Nj (h x g F)
end
noncomputable abbrev A2:=Option (Option Nat)×Nat
noncomputable abbrev D3:=Option (Option Nat)×Nat×Nat
noncomputable def zv(lo a nrem:Nat):StateT Nf Sem A2:=forIn [a:nrem] ((none,a):A2) λ_ c=>do
 let x<-ltAt' (lo+c.2) (lo+c.2-1)
 match x with
 |some sm=>if sm=true then pure (.done (none,c.2))else pure (.yield (none,c.2+1))
 |_=>pure (.done (some none,c.2))
noncomputable def Gq(lo n nrem:Nat):StateT Nf Sem (Option Nat):=do
 reverseSlice' lo (lo+n)
 let c<-zv lo n nrem
 match c.1 with
 |some r=>pure r
 |none=>pure (some c.2)
noncomputable def Cq(lo n nrem:Nat):StateT Nf Sem D3:=forIn [n:nrem] ((none,n,0):D3) λ_ c=>do
 let x<-ltAt' (lo+c.2.1) (lo+c.2.1-1)
 match x with
 |some sm=>
  if sm=true then
   if c.2.2>0 then do
    reverseSlice' (lo+c.2.1-(c.2.2+1)) (lo+c.2.1)
    pure (.yield (none,c.2.1+1,0))
   else pure (.yield (none,c.2.1+1,0))
  else do
   let y<-ltAt' (lo+c.2.1-1) (lo+c.2.1)
   match y with
   |some lg=>if lg=true then pure (.done (none,c.2.1,c.2.2))else pure (.yield (none,c.2.1+1,c.2.2+1))
   |_=>pure (.done (some none,c.2.1,c.2.2))
 |_=>pure (.done (some none,c.2.1,c.2.2))
noncomputable def F8(lo n nrem:Nat):StateT Nf Sem (Option Nat):=do
 liftM (rule "list.sort.descending-run")
 let c<-Cq lo (n+1) nrem
 match c.1 with
 |some r=>pure r
 |none=>
  if c.2.2>0 then do
   reverseSlice' (lo+c.2.1-(c.2.2+1)) (lo+c.2.1)
   Gq lo c.2.1 nrem
  else Gq lo c.2.1 nrem
theorem oU(lo nrem:Nat):countRun' lo nrem=(do
  let c<-zv lo 1 nrem
  match c.1 with
  |some r=>pure r
  |none=>
   if(c.2==nrem)=true then pure (some c.2)
   else if c.2>1 then do
    let x<-ltAt' lo (lo+c.2-1)
    match x with
    |some rose=>if rose=true then pure (some c.2)else do
      reverseSlice' lo (lo+c.2)
      F8 lo c.2 nrem
    |_=>pure none
   else F8 lo c.2 nrem):=by kernel_rfl
noncomputable def C7(lo k:Nat):StateT Nf Sem (Option Bool×Nat×Nat):=forIn [0:k] ((none,0,k):Option Bool×Nat×Nat) λ_ c=>
 if c.2.1>=c.2.2 then pure (.done (none,c.2.1,c.2.2))
 else do
  let x<-ltAt' (lo+k) (lo+(c.2.1+c.2.2)/2)
  match x with
  |some ls=>if ls=true then pure (.yield (none,c.2.1,(c.2.1+c.2.2)/2))else pure (.yield (none,(c.2.1+c.2.2)/2+1,c.2.2))
  |_=>pure (.done (some false,c.2.1,c.2.2))
theorem mJ(lo n ok:Nat):binarySort' lo n ok=(do
  let c<-forIn [max ok 1:n] ((none,()):Option Bool×Unit) λk _=>do
   let c<-C7 lo k
   match c.1 with
   |some r=>pure (.done (some r,()))
   |none=>do
    moveDown' (lo+k) (lo+c.2.1)
    pure (.yield (none,()))
  match c.1 with
  |some r=>pure r
  |none=>pure true):=by kernel_rfl
variable[aq]
structure jF(N lo:Nat)(p p':Array Nat):Prop where
 pm:PM N p'
 eq:∀i,i<lo->p'.getD i 0=p.getD i 0
theorem jF.trans{N lo:Nat}{p p' q:Array Nat}(h:jF N lo p p')(h':jF N lo p' q):jF N lo p q:=⟨h'.pm,λi hi=>(h'.eq i hi).trans (h.eq i hi)⟩
theorem jF.rev{N lo i j:Nat}{p:Array Nat}(h:PM N p)(hi:lo<=i)(hj:j<=N):jF N lo p (Nb p i j):=⟨h.rev i j,λk hk=>by
 have:=oX (r:=id) (p:=p) (i:=i) (j:=j) (by rw[h.size];exact hj) k
 rw[if_neg `o]at this;exact this⟩
section
variable{prog:Mh}{w:Mg}{A:Mo}{E:aD}{s:Mf}{κ:Nk}{it:Array Nc}{r:Nat->Nat}{N:Nat}{pd:Array (Nat×Nat×Nat)}{g:Nat}
noncomputable abbrev Zs(κ:Nk)(it:Array Nc)(pd:Array (Nat×Nat×Nat))(g:Nat)(p:Array Nat):Nf:=SortSt.mk' κ (p.map (Nn it)) pd g none
theorem jm{p:Array Nat}{i j:Nat}(hc:`j)(hp:PM N p)(hi:i<N)(hj:j<N){Q:Option Bool->Nf->Prop}(h:Q (some (decide (Rk r p i<Rk r p j))) (Zs κ it pd g p)):wpS `g A E s (ltAt' i j) Q (Zs κ it pd g p):=by
 have hs:=hp.size;rw[ltAt'_eq];refine Ng (Np ?_);show wpS _ _ _ _ (do let x<-elem' (p.map (Nn it)) i;let y<-elem' (p.map (Nn it)) j;lt' x y) Q _;exact Ng (aH `o (Ng (aH `o (jC hc (hp.lt hi) (hp.lt hj) rfl h))))
theorem jp{p:Array Nat}{i j:Nat}{Q:Unit->Nf->Prop}(h:Q () (Zs κ it pd g (Nb p i j))):wpS `g A E s (reverseSlice' i j) Q (Zs κ it pd g p):=by
 rw[reverseSlice'_eq];refine Nt ?_;have e1:mirror (p.map (Nn it)) i j ((j-i)/2)=(mirror p i j ((j-i)/2)).map (Nn it):=kas_swaps_map (Nn it) (λk=>i+k) (λk=>j-1-k) _ p;show Q () (SortSt.mk' κ (mirror (p.map (Nn it)) i j ((j-i)/2)) pd g none);rw[e1];exact h
theorem yZ{p:Array Nat}{k l:Nat}{Q:Unit->Nf->Prop}(h:Q () (Zs κ it pd g (bubble p k (k-l)))):wpS `g A E s (moveDown' k l) Q (Zs κ it pd g p):=by
 rw[moveDown'_eq];refine Nt ?_;have e1:bubble (p.map (Nn it)) k (k-l)=(bubble p k (k-l)).map (Nn it):=kas_swaps_map (Nn it) (λi=>k-i) (λi=>k-i-1) _ p;show Q () (SortSt.mk' κ (bubble (p.map (Nn it)) k (k-l)) pd g none);rw[e1];exact h
noncomputable def zn(r:Nat->Nat)(lo:Nat)(p:Array Nat)(n:Nat):Prop:=∀i j,i<=j->j<n->Rk r p (lo+i)<=Rk r p (lo+j)
noncomputable def Eh(r:Nat->Nat)(lo:Nat)(p:Array Nat)(n:Nat):Prop:=∀i j,i<=j->j<n->Rk r p (lo+j)<=Rk r p (lo+i)
theorem tB(hc:`j){p:Array Nat}(hp:PM N p){lo a nrem:Nat}(h0:lo+nrem<=N)(h1:1<=a)(h2:a<=nrem)(u:zn r lo p a){Q:A2->Nf->Prop}
  (h:∀n,a<=n->n<=nrem->zn r lo p n->(n=nrem\/Rk r p (lo+n)<Rk r p (lo+n-1))->Q (none,n) (Zs κ it pd g p)):wpS `g A E s (zv lo a nrem) Q (Zs κ it pd g p):=by
 unfold zv;refine Ni (I:=λx c st'=>st'=Zs κ it pd g p/\c=(none,x)/\zn r lo p x) ?_ ?_ ⟨rfl,rfl,u⟩
 ·rintro x c st' h3 h4 ⟨rfl,rfl,u'⟩;dsimp only;refine Ng (jm hc hp `o `o ?_);by_cases z:Rk r p (lo+x)<Rk r p (lo+x-1)
  ·simp only[decide_eq_true z,if_true];exact Nj (h x h3 `o u' (.inr z))
  ·simp only[decide_eq_false z,Jt,if_false];refine Nj ⟨rfl,rfl,λi j hij hj=>?_⟩;by_cases hjx:j<x
   ·exact u' i j hij hjx
   ·have ej:j=x:=(by omega);subst ej;by_cases ei:i=j
    ·subst ei;exact IJ _
    ·have:=u' i (j-1) `o `o
     rw[show lo+(j-1)=lo+j-1 by omega]at this;omega
 ·rintro c st' ⟨rfl,rfl,u'⟩;rw[show max a nrem=nrem by omega]at u' ⊢;exact h nrem h2 (IJ _) u' (.inl rfl)
noncomputable abbrev wd(κ:Nk)(it:Array Nc)(pd:Array (Nat×Nat×Nat))(g:Nat)(r:Nat->Nat)(N lo nrem:Nat)(p:Array Nat)(Q:Option Nat->Nf->Prop):Prop:=∀m p',jF N lo p p'->1<=m->m<=nrem->zn r lo p' m->Q (some m) (Zs κ it pd g p')
theorem yI(hc:`j){p:Array Nat}(hp:PM N p){lo n nrem:Nat}(h0:lo+nrem<=N)(h1:1<=n)(h2:n<=nrem)(d:Eh r lo p n){Q:Option Nat->Nf->Prop}(h:wd κ it pd g r N lo nrem p Q):wpS `g A E s (Gq lo n nrem) Q (Zs κ it pd g p):=by
 have hs:=hp.size;unfold Gq;refine Ng (jp (Ng (tB hc (hp.rev _ _) h0 h1 h2 (λi j hij hj=>?_) λm m1 m2 u _=>Nj (h m _ (jF.rev hp (IJ _) `o) `o m2 u))));rw[oX `o,oX `o,if_pos `o,if_pos `o]
 have:=d (n-1-j) (n-1-i) `o `o
 rw[show lo+(n-1-i)=lo+(lo+n)-1-(lo+i)by omega,show lo+(n-1-j)=lo+(lo+n)-1-(lo+j)by omega]at this;exact this
theorem ou{p:Array Nat}{lo n q:Nat}(hn:lo+n<=p.size)(hq:q+1<=n)(he:∀i,n-(q+1)<=i->i<n->Rk r p (lo+i)=Rk r p (lo+n-1))(k:Nat):Rk r (Nb p (lo+n-(q+1)) (lo+n)) k=Rk r p k:=by
 rw[oX hn];split
 ·rename_i h;have a1:=he (lo+n-(q+1)+(lo+n)-1-k-lo) `o `o;have a2:=he (k-lo) `o `o;rw[show lo+(lo+n-(q+1)+(lo+n)-1-k-lo)=lo+n-(q+1)+(lo+n)-1-k by omega]at a1;rw[show lo+(k-lo)=k by omega]at a2;omega
 ·rfl
theorem Bh(hc:`j){p:Array Nat}(hp:PM N p){lo n nrem:Nat}(h0:lo+nrem<=N)(h1:1<=n)(h2:n<=nrem)(d:Eh r lo p n){Q:D3->Nf->Prop}
  (h:∀m q p',jF N lo p p'->n<=m->m<=nrem->Eh r lo p' m->q+1<=m->(∀i,m-(q+1)<=i->i<m->Rk r p' (lo+i)=Rk r p' (lo+m-1))->Q (none,m,q) (Zs κ it pd g p')):wpS `g A E s (Cq lo n nrem) Q (Zs κ it pd g p):=by
 unfold Cq;refine Ni (I:=λx c st'=>∃q p',c=(none,x,q)/\st'=Zs κ it pd g p'/\jF N lo p p'/\Eh r lo p' x/\q+1<=x/\∀i,x-(q+1)<=i->i<x->Rk r p' (lo+i)=Rk r p' (lo+x-1)) ?_ ?_ ⟨0,p,rfl,rfl,⟨hp,λ_ _=>rfl⟩,d,by omega,λi a b=>by rw[show lo+i=lo+n-1 by omega]⟩
 ·rintro x c st' h3 h4 ⟨q,p',rfl,rfl,S,d',hq,he⟩;have hs:=S.pm.size;dsimp only;have step:∀p2,(∀k,Rk r p2 k=Rk r p' k)->Rk r p' (lo+x)<=Rk r p' (lo+x-1)->Eh r lo p2 (x+1):=λp2 hk hl i j hij hj=>by
   rw[hk,hk];by_cases hjx:j<x
   ·exact d' i j hij hjx
   ·have ej:j=x:=(by omega);subst ej;by_cases ei:i=j
    ·subst ei;exact IJ _
    ·have:=d' i (j-1) `o `o
     rw[show lo+(j-1)=lo+j-1 by omega]at this;omega
  refine Ng (jm hc S.pm `o `o ?_);by_cases z:Rk r p' (lo+x)<Rk r p' (lo+x-1)
  ·simp only[decide_eq_true z,if_true];by_cases hq0:q>0
   ·rw[if_pos hq0];exact Ng (jp (Nj ⟨0,_,rfl,rfl,S.trans (jF.rev S.pm `o `o),step _ (ou `o hq he) `o,by omega,λi a b=>by rw[show lo+i=lo+(x+1)-1 by omega]⟩))
   ·rw[if_neg hq0];exact Nj ⟨0,_,rfl,rfl,S,step _ (λ_=>rfl) `o,by omega,λi a b=>by rw[show lo+i=lo+(x+1)-1 by omega]⟩
  ·simp only[decide_eq_false z,Jt,if_false];refine Ng (jm hc S.pm `o `o ?_);by_cases y:Rk r p' (lo+x-1)<Rk r p' (lo+x)
   ·simp only[decide_eq_true y,if_true];exact Nj (h x q p' S h3 `o d' hq he)
   ·simp only[decide_eq_false y,Jt,if_false];refine Nj ⟨q+1,_,rfl,rfl,S,step _ (λ_=>rfl) `o,by omega,λi a b=>?_⟩;rw[show lo+(x+1)-1=lo+x by omega];by_cases ei:i=x
    ·subst ei;rfl
    ·have:=he i `o `o
     omega
 ·rintro c st' ⟨q,p',rfl,rfl,S,d',hq,he⟩;rw[show max n nrem=nrem by omega]at d' hq he ⊢;exact h nrem q p' S h2 (IJ _) d' hq he
theorem wd.on{lo nrem:Nat}{p p':Array Nat}{Q:Option Nat->Nf->Prop}(h:wd κ it pd g r N lo nrem p Q)(S:jF N lo p p'):wd κ it pd g r N lo nrem p' Q:=λm q S'=>h m q (S.trans S')
theorem zb(hc:`j){p:Array Nat}(hp:PM N p){lo n nrem:Nat}(h0:lo+nrem<=N)(h2:n+1<=nrem)(d:Eh r lo p (n+1)){Q:Option Nat->Nf->Prop}(h:wd κ it pd g r N lo nrem p Q):wpS `g A E s (F8 lo n nrem) Q (Zs κ it pd g p):=by
 unfold F8;refine Ng (Nq (M6 ⟨rfl,?_⟩));refine Ng (Bh hc hp h0 `o h2 d λm q p' S m1 m2 d' hq he=>?_);have hs:=S.pm.size;dsimp only;by_cases hq0:q>0
 ·rw[if_pos hq0];have S2:=S.trans (jF.rev (i:=lo+m-(q+1)) (j:=lo+m) S.pm `o `o);refine Ng (jp (yI hc S2.pm h0 `o m2 (λi j hij hj=>?_) (h.on S2)));rw[ou `o hq he,ou `o hq he];exact d' i j hij hj
 ·rw[if_neg hq0];exact yI hc S.pm h0 `o m2 d' (h.on S)
theorem pB(hc:`j){p:Array Nat}(hp:PM N p){lo nrem:Nat}(h0:lo+nrem<=N)(h1:1<=nrem){Q:Option Nat->Nf->Prop}(h:wd κ it pd g r N lo nrem p Q):wpS `g A E s (countRun' lo nrem) Q (Zs κ it pd g p):=by
 have hs:=hp.size;have S0:jF N lo p p:=⟨hp,λ_ _=>rfl⟩
 rw[oU];refine Ng (tB hc hp h0 (IJ _) h1 (λi j hij hj=>by rw[show i=j by omega];exact IJ _) λn a b u hor=>?_);dsimp only;by_cases hn:n=nrem
 ·rw[if_pos (by simpa using hn)];exact Nj (h n p S0 a b u)
 ·rw[if_neg (by simpa using hn)];have hlt:Rk r p (lo+n)<Rk r p (lo+n-1):=hor.resolve_left hn;by_cases hg:n>1
  ·rw[if_pos hg];refine Ng (jm hc hp `o `o ?_);by_cases q:Rk r p lo<Rk r p (lo+n-1)
   ·simp only[decide_eq_true q,if_true];exact Nj (h n p S0 a b u)
   ·simp only[decide_eq_false q,Jt,if_false];have hall:∀k,k<n->Rk r p (lo+k)=Rk r p (lo+n-1):=λk hk=>by
     have a1:=u 0 k `o hk;have a2:=u k (n-1) `o `o;rw[Nat.add_zero]at a1;rw[show lo+(n-1)=lo+n-1 by omega]at a2;omega
    have hr:∀k,Rk r (Nb p lo (lo+n)) k=Rk r p k:=λk=>by
     have:=ou (r:=r) (p:=p) (lo:=lo) (n:=n) (q:=n-1) `o `o (λi _ hi=>hall i hi) k
     rwa [show lo+n-(n-1+1)=lo by omega]at this
    refine Ng (jp (zb hc (hp.rev _ _) h0 `o (λi j hij hj=>?_) (h.on (jF.rev hp (IJ _) `o))));rw[hr,hr];by_cases hjn:j<n
    ·rw[hall i `o,hall j hjn];exact IJ _
    ·have ej:j=n:=(by omega);subst ej;by_cases ei:i=j
     ·subst ei;exact IJ _
     ·rw[hall i `o];omega
  ·rw[if_neg hg];have en:n=1:=(by omega);subst en;refine zb hc hp h0 `o (λi j hij hj=>?_) h;by_cases ei:i=j
   ·subst ei;exact IJ _
   ·have e0:i=0:=(by omega);have e1:j=1:=(by omega);subst e0 e1;exact Iz hlt
theorem Az(hc:`j){p:Array Nat}(hp:PM N p){lo k:Nat}(hk:lo+k<N)(u:zn r lo p k){Q:Option Bool×Nat×Nat->Nf->Prop}
  (h:∀l t,l<=k->(∀i,i<l->Rk r p (lo+i)<=Rk r p (lo+k))->(∀i,l<=i->i<k->Rk r p (lo+k)<Rk r p (lo+i))->Q (none,l,t) (Zs κ it pd g p)):wpS `g A E s (C7 lo k) Q (Zs κ it pd g p):=by
 unfold C7;refine Ni (I:=λx c st'=>st'=Zs κ it pd g p/\∃l t,c=(none,l,t)/\l<=t/\t<=k/\t-l<=k-x/\(∀i,i<l->Rk r p (lo+i)<=Rk r p (lo+k))/\∀i,t<=i->i<k->Rk r p (lo+k)<Rk r p (lo+i)) ?_ ?_ ⟨rfl,0,k,rfl,by omega,by omega,by omega,λi hi=>by omega,λi a b=>by omega⟩
 ·rintro x c st' _ hx ⟨rfl,l,t,rfl,a1,a2,a3,a4,a5⟩;dsimp only;by_cases z:l>=t
  ·rw[if_pos z]
   have:l=t:=(by omega);subst this;exact Nj (h l l a2 a4 a5)
  ·rw[if_neg z];refine Ng (jm hc hp `o `o ?_);by_cases q:Rk r p (lo+k)<Rk r p (lo+(l+t)/2)
   ·simp only[decide_eq_true q,if_true];refine Nj ⟨rfl,l,(l+t)/2,rfl,by omega,by omega,by omega,a4,λi x y=>?_⟩
    have:=u ((l+t)/2) i x y
    omega
   ·simp only[decide_eq_false q,Jt,if_false];refine Nj ⟨rfl,(l+t)/2+1,t,rfl,by omega,by omega,by omega,λi x=>?_,a5⟩
    have:=u i ((l+t)/2) `o `o
    omega
 ·rintro c st' ⟨rfl,l,t,rfl,a1,a2,a3,a4,a5⟩
  have:l=t:=by omega
  subst this;exact h l l a2 a4 a5
theorem jF.bub{N lo k d:Nat}{p:Array Nat}(h:PM N p)(hk:k<N)(hd:lo+d<=k):jF N lo p (bubble p k d):=⟨(bubble_perm p k d).trans h,λi hi=>by
 have:=sJ (r:=id) (p:=p) (src:=k) (d:=d) (by rw[h.size];exact hk) `o i
 rw[if_neg `o,if_neg `o]at this;exact this⟩
theorem lN(hc:`j){p:Array Nat}(hp:PM N p){lo n ok:Nat}(h0:lo+n<=N)(h1:1<=ok)(h2:ok<=n)(u:zn r lo p ok){Q:Bool->Nf->Prop}
  (h:∀p',jF N lo p p'->zn r lo p' n->Q true (Zs κ it pd g p')):wpS `g A E s (binarySort' lo n ok) Q (Zs κ it pd g p):=by
 rw[mJ];refine Ng (Nh (Ni (I:=λk c st'=>c=(none,())/\∃p',st'=Zs κ it pd g p'/\jF N lo p p'/\zn r lo p' k)
  (Q:=λc st'=>c=(none,())/\∃p',st'=Zs κ it pd g p'/\jF N lo p p'/\zn r lo p' n) ?_ ?_ ⟨rfl,p,rfl,⟨hp,λ_ _=>rfl⟩,by rw[show max ok 1=ok by omega];exact u⟩) ?_)
 ·rintro k c st' k1 k2 ⟨rfl,p',rfl,S,u'⟩;have hs:=S.pm.size;refine Ng (Az hc S.pm `o u' λl t hl d e'=>?_);dsimp only;refine Ng (yZ (Nj ⟨rfl,_,rfl,S.trans (jF.bub S.pm `o `o),λi j hij hj=>?_⟩));rw[sJ `o `o,sJ `o `o,show lo+k-(lo+k-(lo+l))=lo+l by omega];have U:=u';by_cases i1:i=l
  ·rw[if_pos `o];by_cases j1:j=l
   ·rw[if_pos `o];exact IJ _
   ·rw[if_neg `o,if_pos `o]
    have:=e' (j-1) `o `o
    rw[show lo+(j-1)=lo+j-1 by omega]at this;exact Iz this
  ·rw[if_neg `o];by_cases i2:l<i/\i<=k
   ·rw[if_pos `o,if_neg `o,if_pos `o]
    have:=U (i-1) (j-1) `o `o
    rwa [show lo+(i-1)=lo+i-1 by omega,show lo+(j-1)=lo+j-1 by omega]at this
   ·rw[if_neg `o];by_cases j1:j=l
    ·rw[if_pos `o];exact d i `o
    ·rw[if_neg `o];by_cases j2:l<j/\j<=k
     ·rw[if_pos `o]
      have:=U i (j-1) `o `o
      rwa [show lo+(j-1)=lo+j-1 by omega]at this
     ·rw[if_neg `o];exact U _ _ hij `o
 ·rintro c st' ⟨rfl,p',rfl,S,u'⟩;rw[show max (max ok 1) n=n by omega]at u';exact⟨rfl,p',rfl,S,u'⟩
 ·rintro c st' ⟨rfl,p',rfl,S,u'⟩;exact Nj (h p' S u')
end
end TG
namespace TG
open PySem PySem.Spec PyProof.Rows PySem.W L2
variable[aq]
noncomputable def El(o:Nat)(z:Array Nc)(a:Array Nc):Array Nc:=z.toList.zipIdx.foldl (λa x=>a.setIfInBounds (o+x.2) x.1) a
noncomputable def FY(st:Nf)(sa na sb nb:Nat):StateT Nf Sem Bool:=do
 let y<-elem' (arrOf st) sb
 let c<-dH false y (arrOf st) sa na 0
 match c with
 |some k=>
  if(na-k==0)=true then pure true
  else do
   let x<-elem' (arrOf st) (sa+k+(na-k)-1)
   let c<-dH true x (arrOf st) sb nb (nb-1)
   match c with
   |some m=>
    if(m==0)=true then pure true
    else do
     let z<-if na-k<=m then lU ((arrOf st).extract (sa+k) sb) ((arrOf st).extract sb (sb+m))else lR ((arrOf st).extract (sa+k) sb) ((arrOf st).extract sb (sb+m))
     modify λs=>setArr s (El (sa+k) z (arrOf s))
     let s<-get
     pure (failedOf s).isNone
   |_=>pure false
 |_=>pure false
theorem qB(i:Nat):mergeAt' i=(do
 let s<-get
 match(pendingOf s)[i]?,(pendingOf s)[i+1]? with
 |some (sa,na,power),some (sb,nb,_)=>do
  set (setPending s (((pendingOf s).setIfInBounds i (sa,na+nb,power)).eraseIdxIfInBounds (i+1)))
  FY s sa na sb nb
 |_,_=>liftM (unsupported "internal:list.sort.pending":Sem Bool)):=by kernel_rfl
section
variable{f:Nat->Nc}
theorem yR(o:Nat):∀(l:aT)(j:Nat)(p:Array Nat),((l.map f).zipIdx j).foldl (λa x=>a.setIfInBounds (o+x.2) x.1) (p.map f)=((l.zipIdx j).foldl (λa x=>a.setIfInBounds (o+x.2) x.1) p).map f
 |[],_,_=>rfl
 |x::l,j,p=>by
  rw[Jg,Ki,Ki,Kj,Kj];have e:(p.map f).setIfInBounds (o+j) (f x)=(p.setIfInBounds (o+j) x).map f:=by simp
  show(((l.map f).zipIdx (j+1)).foldl _ ((p.map f).setIfInBounds (o+j) (f x)))=_;rw[e];exact yR o l (j+1) _
theorem tX(o:Nat):∀(l:aT)(j:Nat)(p:Array Nat)(X m Y:aT),p.toList=X++m++Y->X.length=o+j->m.length=l.length->((l.zipIdx j).foldl (λa x=>a.setIfInBounds (o+x.2) x.1) p).toList=X++l++Y
 |[],_,p,X,m,Y,e,_,h=>by
  rw[Jm,Kk]at h;subst h;exact e
 |x::l,j,p,X,[],Y,_,_,h=>by cases h
 |x::l,j,p,X,y::m,Y,e,hX,h=>by
  rw[Ki,Kj];have z:(p.setIfInBounds (o+j) x).toList=(X++[x])++m++Y:=by
   rw[Array.toList_setIfInBounds,e,<-hX];simp
  have:=tX o l (j+1) _ (X++[x]) m Y z (by rw[IY,Je];omega) (by simpa using h)
  rw[this];simp
end
theorem gD(p:Array Nat)(k:Nat):p.getD k 0=(p.toList[k]?).getD 0:=by simp
theorem yg{p:Array Nat}{X Z:aT}(e:p.toList=X++Z)(i:Nat):p.getD (X.length+i) 0=(Z[i]?).getD 0:=by
 rw[gD,e,IR `o,Kc]
theorem gX{r:Nat->Nat}{L:aT}(h:L.Pairwise λx y=>r x<=r y){i j:Nat}(hij:i<=j)(hj:j<L.length):r ((L[i]?).getD 0)<=r ((L[j]?).getD 0):=by
 have hi:i<L.length:=by omega
 rw[Jz hi,Jz hj];by_cases z:i=j
 ·subst z;exact IJ _
 ·exact List.pairwise_iff_getElem.mp h i j hi hj `o
theorem v9.of{r:Nat->Nat}{a:Array Nat}{L:aT}(e:a.toList=L)(h:L.Pairwise λx y=>r x<=r y):v9 r a:=λi j hij hj=>by
 have hl:L.length=a.size:=by rw[<-e,Array.length_toList]
 rw[gD,gD,e];exact gX h hij `o
section
variable{prog:Mh}{w:Mg}{A:Mo}{E:aD}{s:Mf}{κ:Nk}{it:Array Nc}{r:Nat->Nat}{N:Nat}{pd pd':Array (Nat×Nat×Nat)}{g:Nat}
theorem Eg(hc:`j){p:Array Nat}{X L M Y:aT}(hp:PM N p)(e:p.toList=X++(L++M)++Y)(hL:L.Pairwise λx y=>r x<=r y)(hM:M.Pairwise λx y=>r x<=r y)(nL:0<L.length)(nM:0<M.length){Q:Bool->Nf->Prop}
  (h:∀p' W g',p'.toList=X++W++Y->W.Perm (L++M)->(W.Pairwise λx y=>r x<=r y)->Q true (Zs κ it pd' g' p')):wpS `g A E s (FY (Zs κ it pd g p) X.length L.length (X.length+L.length) M.length) Q (Zs κ it pd' g p):=by
 have hs:=hp.size;have sz:p.size=X.length+(L.length+M.length)+Y.length:=by
  rw[<-Array.length_toList,e];simp;omega
 have hq:∀x∈p.toList,x<N:=λx hx=>by
  obtain⟨i,hi,rfl⟩:=J6 hx;rw[Array.length_toList]at hi
  have:=hp.lt (i:=i) `o
  have z:p.getD i 0=p[i]:=by simp[Array.getD,hi]
  rw[z]at this
  simpa using this
 have eL:∀i,i<L.length->p.getD (X.length+i) 0=(L[i]?).getD 0:=λi hi=>by
  rw[yg (X:=X) (Z:=(L++M)++Y) (by rw[e,JQ]),JQ,IU hi]
 have eM:∀i,i<M.length->p.getD (X.length+L.length+i) 0=(M[i]?).getD 0:=λi hi=>by
  have:=yg (p:=p) (X:=X++L) (Z:=M++Y) (by rw[e];simp) i
  rw[IY]at this;rw[this,IU hi]
 have e0:p.getD (X.length+L.length) 0=(M[0]?).getD 0:=eM 0 nM;have mL:∀x∈L,∃i,i<L.length/\x=(L[i]?).getD 0:=λx hx=>by
  obtain⟨i,hi,rfl⟩:=J6 hx;exact⟨i,hi,by rw[Jz hi];rfl⟩
 have mM:∀x∈M,∃i,i<M.length/\x=(M[i]?).getD 0:=λx hx=>by
  obtain⟨i,hi,rfl⟩:=J6 hx;exact⟨i,hi,by rw[Jz hi];rfl⟩
 have all:(∀x∈L,∀y∈M,r x<=r y)->∀g',Q true (Zs κ it pd' g' p):=λq g'=>h p (L++M) g' e (List.Perm.refl _) (List.pairwise_append.mpr ⟨hL,hM,q⟩);unfold FY;refine Ng (aH (q:=p) `o ?_);refine Ng (iu (q:=p) (left:=false) (k:=p.getD (X.length+L.length) 0) (base:=X.length) (n:=L.length) (hint:=0) hc (hp.lt `o) `o nL hq (λi j hij hj=>by rw[eL i `o,eL j hj];exact gX hL hij hj) rfl λk k1 k2 k3=>?_);dsimp only;have le:∀i,i<k->r ((L[i]?).getD 0)<=r ((M[0]?).getD 0):=λi hi=>by
  have:=k2 i hi
  rw[eL i `o,e0]at this
  simpa [pY]using this
 have gt:∀i,k<=i->i<L.length->r ((M[0]?).getD 0)<r ((L[i]?).getD 0):=λi hi hj=>by
  have:=k3 i hi hj
  rw[eL i hj,e0]at this
  simpa [pY]using this
 by_cases z:L.length-k=0
 ·rw[if_pos (by simpa using z)];refine Nj (all (λx hx y hy=>?_) g);obtain⟨i,hi,rfl⟩:=mL x hx;obtain⟨j,hj,rfl⟩:=mM y hy;exact Iy (le i `o) (gX hM (Jq _) hj)
 ·rw[if_neg (by simpa using z)];have el:p.getD (X.length+k+(L.length-k)-1) 0=(L[L.length-1]?).getD 0:=by
   rw[show X.length+k+(L.length-k)-1=X.length+(L.length-1)by omega];exact eL _ `o
  refine Ng (aH (q:=p) `o ?_);refine Ng (iu (q:=p) (left:=true) (k:=p.getD (X.length+k+(L.length-k)-1) 0) (base:=X.length+L.length) (n:=M.length) (hint:=M.length-1) hc (hp.lt `o) `o `o hq (λi j hij hj=>by rw[eM i `o,eM j hj];exact gX hM hij hj) rfl λm m1 m2 m3=>?_);dsimp only;have lt:∀i,i<m->r ((M[i]?).getD 0)<r ((L[L.length-1]?).getD 0):=λi hi=>by
   have:=m2 i hi
   rw[eM i `o,el]at this
   simpa [pY]using this
  have ge:∀i,m<=i->i<M.length->r ((L[L.length-1]?).getD 0)<=r ((M[i]?).getD 0):=λi hi hj=>by
   have:=m3 i hi hj
   rw[eM i hj,el]at this
   simpa [pY]using this
  by_cases y:m=0
  ·rw[if_pos (by simpa using y)];refine Nj (all (λx hx y hy=>?_) g);obtain⟨i,hi,rfl⟩:=mL x hx;obtain⟨j,hj,rfl⟩:=mM y hy;exact Iy (gX hL `o `o) (ge j `o hj)
  ·rw[if_neg (by simpa using y)];have ea:(p.extract (X.length+k) (X.length+L.length)).toList=L.drop k:=by
    rw[dX,e,show X.length+L.length-(X.length+k)=L.length-k by omega,<-J8,JQ,Kl,JQ,List.drop_append_of_le_length `o];exact List.take_left' (by rw[Jb])
   have eb:(p.extract (X.length+L.length) (X.length+L.length+m)).toList=M.take m:=by
    rw[dX,e,Kc,<-J8,JQ,Kl,JQ,Kl,List.take_append_of_le_length m1]
   have sa:(p.extract (X.length+k) (X.length+L.length)).size=L.length-k:=(by rw[<-Array.length_toList,ea,Jb]);have sb:(p.extract (X.length+L.length) (X.length+L.length+m)).size=m:=(by rw[<-Array.length_toList,eb,IQ];omega);have T:vS r N (p.extract (X.length+k) (X.length+L.length)) (p.extract (X.length+L.length) (X.length+L.length+m)):=⟨v9.of ea (List.Pairwise.sublist (Km _ _) hL),v9.of eb (List.Pairwise.sublist (IW _ _) hM),
    λx hx=>by rw[ea]at hx;exact hq x (by rw[e];simp[Kb hx]),λx hx=>by rw[eb]at hx;exact hq x (by rw[e];simp[Kh hx])⟩
   have la:(p.extract (X.length+k) (X.length+L.length)).getD ((p.extract (X.length+k) (X.length+L.length)).size-1) 0=(L[L.length-1]?).getD 0:=by
    rw[gD,ea,sa,JI,show k+(L.length-k-1)=L.length-1 by omega]
   have fb:(p.extract (X.length+L.length) (X.length+L.length+m)).getD 0 0=(M[0]?).getD 0:=by
    rw[gD,eb,Kn,if_pos `o]
   have fa:(p.extract (X.length+k) (X.length+L.length)).getD 0 0=(L[k]?).getD 0:=by
    rw[gD,ea,JI,Nat.add_zero]
   have hl:∀y∈(p.extract (X.length+L.length) (X.length+L.length+m)).toList,r y<=r ((p.extract (X.length+k) (X.length+L.length)).getD ((p.extract (X.length+k) (X.length+L.length)).size-1) 0):=λy hy=>by
    rw[la];rw[eb]at hy;obtain⟨i,hi,rfl⟩:=J6 hy;rw[IQ]at hi
    have:=lt i `o
    rw[Jz (show i<M.length by omega)]at this;rw[J7];exact Iz this
   have hf:∀x∈(p.extract (X.length+k) (X.length+L.length)).toList,r ((p.extract (X.length+L.length) (X.length+L.length+m)).getD 0 0)<=r x:=λx hx=>by
    rw[fb];rw[ea]at hx;obtain⟨i,hi,rfl⟩:=J6 hx;rw[Jb]at hi
    have:=gt (k+i) `o `o
    rw[Jz (show k+i<L.length by omega)]at this;rw[Ko];exact Iz this
   have fin:∀x g',eE it r ((p.extract (X.length+k) (X.length+L.length)).toList++(p.extract (X.length+L.length) (X.length+L.length+m)).toList) x->wpS `g A E s (do modify (λs=>setArr s (El (X.length+k) x (arrOf s)));let s<-get;pure (failedOf s).isNone) Q (setG (Zs κ it pd' g p) g'):=λx g' F=>by
    obtain⟨q,rfl,q1,q2⟩:=F;rw[ea,eb]at q2;have ew:El (X.length+k) (q.map (Nn it)) (p.map (Nn it))=((q.toList.zipIdx).foldl (λa x=>a.setIfInBounds (X.length+k+x.2) x.1) p).map (Nn it):=by
     unfold El;rw[Array.toList_map];exact yR _ _ _ _
    have el:((q.toList.zipIdx).foldl (λa x=>a.setIfInBounds (X.length+k+x.2) x.1) p).toList=(X++L.take k)++q.toList++(M.drop m++Y):=by
     refine tX _ _ 0 p (X++L.take k) (L.drop k++M.take m) (M.drop m++Y) ?_ (by rw[IY,IQ];omega) (q2.length_eq).symm;rw[e,show X++L.take k++(L.drop k++M.take m)++(M.drop m++Y)=X++((L.take k++L.drop k)++(M.take m++M.drop m))++Y by simp only[JQ],J9,J9]
    refine Ng (Nt (Ng (Np (Nj ?_))))
    have:=h _ (L.take k++q.toList++M.drop m) g' (by rw[el];simp) (by
     conv=>rhs;rw[<-J9 k L,<-J9 m M]
     rw[JQ,JQ];refine List.Perm.append_left _ ?_;rw[<-JQ];exact List.Perm.append_right _ q2) (by
     have mq:∀y∈q.toList,y∈L.drop k\/y∈M.take m:=λy hy=>List.mem_append.mp (q2.mem_iff.mp hy);have atk:∀x∈L.take k,∃i,i<k/\i<L.length/\x=(L[i]?).getD 0:=λx hx=>by
      obtain⟨i,hi,rfl⟩:=J6 hx;rw[IQ]at hi;exact⟨i,by omega,by omega,by rw[J7,Jz (show i<L.length by omega)];rfl⟩
     have amd:∀x∈M.drop m,∃i,m<=i/\i<M.length/\x=(M[i]?).getD 0:=λx hx=>by
      obtain⟨i,hi,rfl⟩:=J6 hx;rw[Jb]at hi;exact⟨m+i,by omega,by omega,by rw[Ko,Jz (show m+i<M.length by omega)];rfl⟩
     refine List.pairwise_append.mpr ⟨List.pairwise_append.mpr ⟨List.Pairwise.sublist (IW _ _) hL,q1,λx hx y hy=>?_⟩,List.Pairwise.sublist (Km _ _) hM,λx hx y hy=>?_⟩
     ·obtain⟨i,i1,i2,rfl⟩:=atk x hx;rcases mq y hy with w|w
      ·obtain⟨j,hj,rfl⟩:=J6 w;rw[Jb]at hj
       have:=gX hL (i:=i) (j:=k+j) `o `o
       rw[Jz (show k+j<L.length by omega)]at this;rw[Ko];exact this
      ·obtain⟨j,hj,rfl⟩:=mM y (Kh w);exact Iy (le i i1) (gX hM (Jq _) hj)
     ·obtain⟨j,j1,j2,rfl⟩:=amd y hy;rcases List.mem_append.mp hx with w|w
      ·obtain⟨i,i1,i2,rfl⟩:=atk x w;exact Iy (le i i1) (gX hM (Jq _) j2)
      ·rcases mq x w with v|v
       ·obtain⟨i,hi,rfl⟩:=mL x (Kb v);exact Iy (gX hL `o `o) (ge j j1 j2)
       ·obtain⟨i,hi,rfl⟩:=J6 v;rw[IQ]at hi
        have:=gX hM (i:=i) (j:=j) `o j2
        rw[Jz (show i<M.length by omega)]at this;rw[J7];exact this)
    show Q true (SortSt.mk' κ (El (X.length+k) (q.map (Nn it)) (p.map (Nn it))) pd' g' none);rw[ew];exact this
   rw[cI,cI];by_cases v:L.length-k<=m
   ·rw[if_pos v];exact Ng (sj (st:=Zs κ it pd' g p) hc rfl hl (by rw[fb,fa];exact Iz (gt k (IJ _) `o)) T `o `o fin)
   ·rw[if_neg v];exact Ng (rL (st:=Zs κ it pd' g p) hc rfl hl hf T `o `o fin)
end
end TG
namespace TG
open PySem PySem.Spec PyProof.Rows PySem.W L2
variable[aq]
noncomputable def Ck(size pw:Nat):StateT Nf Sem (Option Unit×Unit):=forIn [0:size] ((none,()):Option Unit×Unit) λ_ _=>do
 let s<-get
 match if(pendingOf s).size>1 then(pendingOf s)[(pendingOf s).size-2]? else none with
 |some (_,_,older)=>
  if older<=pw then pure (.done (none,()))
  else do
   let b<-mergeAt' ((pendingOf s).size-2)
   if(!b)=true then pure (.done (some (),()))else pure (.yield (none,()))
 |_=>pure (.done (none,()))
noncomputable def putL(lo n:Nat):StateT Nf Sem (ForInStep (Option Unit×Nat)):=do
 modify λs=>setPending s ((pendingOf s).push (lo,n,0))
 pure (.yield (none,lo+n))
noncomputable def A5(size lo n:Nat):StateT Nf Sem (ForInStep (Option Unit×Nat)):=do
 let s<-get
 match(pendingOf s).back? with
 |some (s1,n1,_)=>do
  let c<-Ck size (power' size (2*s1+n1) (2*s1+n1+n1+n) size)
  match c.1 with
  |some r=>pure (.done (some r,lo))
  |none=>do
   modify λs=>setPending s ((pendingOf s).modify ((pendingOf s).size-1) λx=>(x.1,x.2.1,power' size (2*s1+n1) (2*s1+n1+n1+n) size))
   putL lo n
 |_=>putL lo n
noncomputable def Am(size mr lo:Nat):StateT Nf Sem (ForInStep (Option Unit×Nat)):=
 if lo>=size then pure (.done (none,lo))
 else do
  let x<-countRun' lo (size-lo)
  match x with
  |some n=>
   if n<mr then do
    liftM (rule "list.sort.binary-insertion")
    let b<-binarySort' lo (min (size-lo) mr) n
    if(!b)=true then pure (.done (some (),lo))else A5 size lo (min (size-lo) mr)
   else A5 size lo n
  |_=>pure (.done (some (),lo))
noncomputable def endL(size:Nat):StateT Nf Sem (Option Unit×Unit):=forIn [0:size] ((none,()):Option Unit×Unit) λ_ _=>do
 let s<-get
 if(pendingOf s).size<=1 then pure (.done (none,()))
 else do
  let b<-mergeAt' (if Option.any (λx=>decide (x<(pendingOf s)[(pendingOf s).size-2+1]?.elim 0 λx=>x.2.1)) (if(pendingOf s).size-2>0 then Option.map (λx=>x.2.1) (pendingOf s)[(pendingOf s).size-2-1]? else none)=true then(pendingOf s).size-2-1 else(pendingOf s).size-2)
  if(!b)=true then pure (.done (some (),()))else pure (.yield (none,()))
theorem pf:sortRuns'=(do
  let s<-get
  let c<-forIn [0:(arrOf s).size] ((none,0):Option Unit×Nat) λ_ c=>Am (arrOf s).size (minRun' (arrOf s).size (arrOf s).size 0) c.2
  match c.1 with
  |some r=>pure r
  |none=>do
   let d<-endL (arrOf s).size
   match d.1 with
   |some r=>pure r
   |none=>pure ()):=by kernel_rfl
noncomputable def cK(r:Nat->Nat):Nat->List (aT)->List (Nat×Nat×Nat)->Prop
 |_,[],[]=>True
 |s,L::Ls,t::ts=>t.1=s/\t.2.1=L.length/\0<L.length/\(L.Pairwise λx y=>r x<=r y)/\cK r (s+L.length) Ls ts
 |_,_,_=>False
section
variable{r:Nat->Nat}
theorem cK.length:∀{Rs:List aT}{ts:List (Nat×Nat×Nat)}{s:Nat},cK r s Rs ts->Rs.length=ts.length
 |[],[],_,_=>rfl
 |_::_,_::_,_,h=>by rw[Jl,Jl,cK.length h.2.2.2.2]
 |[],_::_,_,h=>h.elim
 |_::_,[],_,h=>h.elim
theorem cK.split:∀{R1 R2:List aT}{ts:List (Nat×Nat×Nat)}{s:Nat},cK r s (R1++R2) ts->∃t1 t2,ts=t1++t2/\t1.length=R1.length/\cK r s R1 t1/\cK r (s+R1.flatten.length) R2 t2
 |[],R2,ts,s,h=>⟨[],ts,rfl,rfl,True.intro,h⟩
 |L::R1,R2,[],s,h=>h.elim
 |L::R1,R2,t::ts,s,h=>by
  obtain⟨h1,h2,h3,h4,h5⟩:=h;obtain⟨t1,t2,rfl,e,a,b⟩:=cK.split h5;refine⟨t::t1,t2,rfl,by rw[Jl,Jl,e],⟨h1,h2,h3,h4,a⟩,?_⟩;rw[Kp,IY,<-Kq];exact b
theorem cK.join:∀{R1 R2:List aT}{t1 t2:List (Nat×Nat×Nat)}{s:Nat},cK r s R1 t1->cK r (s+R1.flatten.length) R2 t2->cK r s (R1++R2) (t1++t2)
 |[],R2,[],t2,s,_,h=>h
 |[],_,_::_,_,_,h,_=>h.elim
 |_::_,_,[],_,_,h,_=>h.elim
 |L::R1,R2,t::t1,t2,s,h,h'=>by
  obtain⟨h1,h2,h3,h4,h5⟩:=h;refine⟨h1,h2,h3,h4,cK.join h5 ?_⟩;rw[Kp,IY,<-Kq]at h';exact h'
theorem cK.last{f:Nat×Nat×Nat->Nat×Nat×Nat}(hf:∀x,(f x).1=x.1/\(f x).2.1=x.2.1):∀{Rs:List aT}{ts:List (Nat×Nat×Nat)}{s:Nat}(i:Nat),cK r s Rs ts->cK r s Rs (ts.modify i f)
 |[],[],_,_,_=>by simp[cK]
 |L::Rs,t::ts,s,0,h=>by
  obtain⟨h1,h2,h3,h4,h5⟩:=h;exact⟨(hf t).1.trans h1,(hf t).2.trans h2,h3,h4,h5⟩
 |L::Rs,t::ts,s,i+1,h=>by
  obtain⟨h1,h2,h3,h4,h5⟩:=h;exact⟨h1,h2,h3,h4,cK.last hf i h5⟩
 |[],_::_,_,_,h=>h.elim
 |_::_,[],_,_,h=>h.elim
end
section
variable{prog:Mh}{w:Mg}{A:Mo}{E:aD}{s:Mf}{κ:Nk}{it:Array Nc}{r:Nat->Nat}{N:Nat}
noncomputable def dU(κ:Nk)(it:Array Nc)(r:Nat->Nat)(N m lo:Nat)(Y:aT)(st:Nf):Prop:=∃(p:Array Nat)(pd:Array (Nat×Nat×Nat))(g:Nat)(Rs:List aT),st=Zs κ it pd g p/\PM N p/\p.toList=Rs.flatten++Y/\Rs.flatten.length=lo/\cK r 0 Rs pd.toList/\Rs.length=m
theorem lz(hc:`j){m lo i:Nat}{Y:aT}{st:Nf}(h:dU κ it r N m lo Y st)(hi:i+1<m){Q:Bool->Nf->Prop}(hQ:∀st',dU κ it r N (m-1) lo Y st'->Q true st'):wpS `g A E s (mergeAt' i) Q st:=by
 obtain⟨p,pd,g,Rs,rfl,hp,e,el,hR,em⟩:=h;obtain⟨R1,L,M,R2,rfl,e1⟩:∃R1 L M R2,Rs=R1++L::M::R2/\R1.length=i:=by
  refine⟨Rs.take i,Rs[i],Rs[i+1],Rs.drop (i+2),?_,by rw[IQ];omega⟩;rw[<-JO,<-JO,J9]
 obtain⟨t1,t2,et,e2,q1,q2⟩:=cK.split hR
 match t2,q2 with
 |(sa,na,pw)::(sb,nb,pw')::t3,q2=>
  obtain⟨a1,a2,a3,a4,b1,b2,b3,b4,b5⟩:=q2;rw[Kf]at a1 b1;have a1:sa=R1.flatten.length:=a1;have a2:na=L.length:=a2;have b1:sb=R1.flatten.length+L.length:=b1;have b2:nb=M.length:=b2;subst a1 a2 b1 b2;have g1:pd[i]?=some (R1.flatten.length,L.length,pw):=by
   rw[<-Array.getElem?_toList,et,IR `o,show i-t1.length=0 by omega];rfl
  have g2:pd[i+1]?=some (R1.flatten.length+L.length,M.length,pw'):=by
   rw[<-Array.getElem?_toList,et,IR `o,show i+1-t1.length=1 by omega];rfl
  have ep:((pd.setIfInBounds i (R1.flatten.length,L.length+M.length,pw)).eraseIdxIfInBounds (i+1)).toList=t1++(R1.flatten.length,L.length+M.length,pw)::t3:=by
   have:i=t1.length:=(by omega);subst this;simp[et];rw[show t1.length+1=t1.length+1 from rfl,List.eraseIdx_append_of_length_le `o,show t1.length+1-t1.length=1 by omega];rfl
  rw[qB];refine Ng (Np ?_);show wpS _ _ _ _ (match pd[i]?,pd[i+1]? with
   |some (sa,na,power),some (sb,nb,_)=>do
    set (setPending (Zs κ it pd g p) ((pd.setIfInBounds i (sa,na+nb,power)).eraseIdxIfInBounds (i+1)))
    FY (Zs κ it pd g p) sa na sb nb
   |_,_=>liftM (unsupported "internal:list.sort.pending":Sem Bool)) Q _
  rw[g1,g2];dsimp only;refine Ng ?_;have ws:∀(st1 st0:Nf)(Q:PUnit->Nf->Prop),Q ⟨⟩ st1->wpS `g A E s (set st1:StateT Nf Sem PUnit) Q st0:=λst1 st0 Q h=>by
   unfold wpS;rw[StateT.run_set];exact Mx ⟨rfl,h⟩
  refine ws _ _ _ ?_;show wpS _ _ _ _ _ Q (Zs κ it ((pd.setIfInBounds i (R1.flatten.length,L.length+M.length,pw)).eraseIdxIfInBounds (i+1)) g p);have e':p.toList=R1.flatten++(L++M)++(R2.flatten++Y):=by rw[e];simp
  refine Eg (X:=R1.flatten) hc hp e' a4 b4 a3 b3 λp' W g' z1 z2 z3=>hQ _ ⟨p',_,g',R1++W::R2,rfl,?_,by rw[z1];simp,?_,?_,?_⟩
  ·refine Array.Perm.trans ?_ hp;refine Array.perm_iff_toList_perm.mpr ?_;rw[z1,e'];exact List.Perm.append_right _ (List.Perm.append_left _ z2)
  ·have:=z2.length_eq
   rw[IY]at this;simp[this]at el ⊢;omega
  ·rw[ep];have wl:=z2.length_eq;rw[IY]at wl;refine cK.join q1 ⟨by simp,wl.symm,by omega,z3,?_⟩;rw[wl,<-Kq];exact b5
  ·simp at em ⊢;omega
 |[],q2=>exact q2.elim
 |[_],q2=>exact(q2.2.2.2.2).elim
theorem AD(hc:`j){size pw m lo:Nat}{Y:aT}{st:Nf}(h:dU κ it r N m lo Y st)(hm:0<m){Q:Option Unit×Unit->Nf->Prop}(hQ:∀m' st',0<m'->m'<=m->dU κ it r N m' lo Y st'->Q (none,()) st'):wpS `g A E s (Ck size pw) Q st:=by
 unfold Ck;refine Ni (I:=λ_ c st'=>c=(none,())/\∃m',0<m'/\m'<=m/\dU κ it r N m' lo Y st') ?_ ?_ ⟨rfl,m,hm,IJ _,h⟩
 ·rintro x c st' _ _ ⟨rfl,m',h1,h2,S⟩;have S':=S;obtain⟨p,pd,g,Rs,rfl,hp,e,el,hR,em⟩:=S';have sz:pd.size=m':=by rw[<-Array.length_toList,<-hR.length,em]
  refine Ng (Np ?_);rw[show pendingOf (Zs κ it pd g p)=pd from rfl];by_cases z:pd.size>1
  ·rw[if_pos z,getElem?_pos pd (pd.size-2) `o];dsimp only;split
   ·exact Nj (hQ m' _ h1 h2 S)
   ·refine Ng (lz hc S `o λst' S'=>?_);simp only[J3,Jt,if_false];exact Nj ⟨rfl,m'-1,by omega,by omega,S'⟩
  ·rw[if_neg z];exact Nj (hQ m' _ h1 h2 S)
 ·rintro c st' ⟨rfl,m',h1,h2,S⟩;exact hQ m' st' h1 h2 S
theorem An(hc:`j){size m lo:Nat}{Y:aT}{st:Nf}(h:dU κ it r N m lo Y st)(hm:0<m)(hs:m<=size){Q:Option Unit×Unit->Nf->Prop}(hQ:∀st',dU κ it r N 1 lo Y st'->Q (none,()) st'):wpS `g A E s (endL size) Q st:=by
 unfold endL;refine Ni (I:=λx c st'=>c=(none,())/\∃m',0<m'/\(m'=1\/m'+x<=m)/\dU κ it r N m' lo Y st') ?_ ?_ ⟨rfl,m,hm,.inr `o,h⟩
 ·rintro x c st' _ _ ⟨rfl,m',h1,h2,S⟩;have S':=S;obtain⟨p,pd,g,Rs,rfl,hp,e,el,hR,em⟩:=S';have sz:pd.size=m':=by rw[<-Array.length_toList,<-hR.length,em]
  refine Ng (Np ?_);rw[show pendingOf (Zs κ it pd g p)=pd from rfl];by_cases z:pd.size<=1
  ·rw[if_pos z]
   have:m'=1:=(by omega);subst this;exact Nj (hQ _ S)
  ·rw[if_neg z];refine Ng (lz hc S ?_ λst' S'=>?_)
   ·have:∀(b:Prop)[Decidable b],(if b then pd.size-2-1 else pd.size-2)+1<m':=λb _=>by split<;>omega
    exact this _
   ·simp only[J3,Jt,if_false];exact Nj ⟨rfl,m'-1,by omega,by omega,S'⟩
 ·rintro c st' ⟨rfl,m',h1,h2,S⟩
  have:m'=1:=by omega
  subst this;exact hQ st' S
noncomputable abbrev Cj(κ:Nk)(it:Array Nc)(r:Nat->Nat)(N lo n:Nat)(Y:aT)(c:ForInStep (Option Unit×Nat))(st':Nf):Prop:=∃m,c=.yield (none,lo+n)/\0<m/\dU κ it r N m (lo+n) Y st'
theorem ux{m lo:Nat}{L Y:aT}{st:Nf}(h:dU κ it r N m lo (L++Y) st)(hL:L.Pairwise λx y=>r x<=r y)(h0:0<L.length):wpS `g A E s (putL lo L.length) (Cj κ it r N lo L.length Y) st:=by
 obtain⟨p,pd,g,Rs,rfl,hp,e,el,hR,em⟩:=h;unfold putL;refine Ng (Nt (Nj ⟨m+1,rfl,by omega,p,pd.push (lo,L.length,0),g,Rs++[L],rfl,hp,by rw[e];simp,by simp;simp at el;omega,?_,by simp[em]⟩));rw[Array.toList_push];exact cK.join hR ⟨by rw[Kf];exact el.symm,rfl,h0,hL,True.intro⟩
theorem uB(hc:`j){size m lo:Nat}{L Y:aT}{st:Nf}(h:dU κ it r N m lo (L++Y) st)(hL:L.Pairwise λx y=>r x<=r y)(h0:0<L.length):wpS `g A E s (A5 size lo L.length) (Cj κ it r N lo L.length Y) st:=by
 have h':=h;obtain⟨p,pd,g,Rs,rfl,hp,e,el,hR,em⟩:=h';have sz:pd.size=m:=by rw[<-Array.length_toList,<-hR.length,em]
 unfold A5;refine Ng (Np ?_);rw[show pendingOf (Zs κ it pd g p)=pd from rfl];cases hb:pd.back? with
 |none=>exact ux h hL h0
 |some t=>
  obtain⟨s1,n1,o⟩:=t;have m0:0<m:=by
   rcases Kr m with z|z
   ·rw[Array.back?_eq_getElem?,getElem?_neg pd _ `o]at hb;cases hb
   ·exact z
  dsimp only;refine Ng (AD hc h m0 λm' st' h1 h2 S=>?_);dsimp only;obtain⟨p',pd',g',Rs',rfl,hp',e',el',hR',em'⟩:=S;refine Ng (Nt ?_);refine ux (m:=m') ⟨p',pd'.modify (pd'.size-1) λx=>(x.1,x.2.1,power' size (2*s1+n1) (2*s1+n1+n1+L.length) size),g',Rs',rfl,hp',e',el',?_,em'⟩ hL h0
  have:(pd'.modify (pd'.size-1) λx=>(x.1,x.2.1,power' size (2*s1+n1) (2*s1+n1+n1+L.length) size)).toList=pd'.toList.modify (pd'.size-1) λx=>(x.1,x.2.1,power' size (2*s1+n1) (2*s1+n1+n1+L.length) size):=by simp
  rw[this];exact cK.last (f:=λx=>(x.1,x.2.1,power' size (2*s1+n1) (2*s1+n1+n1+L.length) size)) (λx=>⟨rfl,rfl⟩) _ hR'
theorem nH{m lo n:Nat}{Y:aT}{p p':Array Nat}{pd:Array (Nat×Nat×Nat)}{g:Nat}{Rs:List aT}(hp:PM N p)(e:p.toList=Rs.flatten++Y)(el:Rs.flatten.length=lo)(hR:cK r 0 Rs pd.toList)(em:Rs.length=m)(S:jF N lo p p')(u:zn r lo p' n)(hn:lo+n<=N):
  ∃L Y',L.length=n/\(L.Pairwise λx y=>r x<=r y)/\dU κ it r N m lo (L++Y') (Zs κ it pd g p'):=by
 have hs:=hp.size;have hs':=S.pm.size;have tk:p'.toList.take lo=Rs.flatten:=by
  have t0:p.toList.take lo=Rs.flatten:=by rw[e,<-el,List.take_left]
  rw[<-t0];refine Kt λi=>?_;rw[Kn,Kn];by_cases z:i<lo
  ·rw[if_pos z,if_pos z];have q:=S.eq i z;rw[gD,gD,Jz (by rw[Array.length_toList];omega),Jz (by rw[Array.length_toList];omega)]at q;rw[Jz (by rw[Array.length_toList];omega),Jz (by rw[Array.length_toList];omega)];exact congrArg some q
  ·rw[if_neg z,if_neg z]
 have sp:p'.toList=Rs.flatten++p'.toList.drop lo:=by rw[<-tk,J9]
 have ln:((p'.toList.drop lo).take n).length=n:=by rw[IQ,Jb,Array.length_toList];omega
 refine⟨(p'.toList.drop lo).take n,(p'.toList.drop lo).drop n,ln,List.pairwise_iff_getElem.mpr λi j hi hj hij=>?_,p',pd,g,Rs,rfl,S.pm,by rw[J9];exact sp,el,hR,em⟩;rw[ln]at hi hj;have q:=u i j `o hj;have ga:∀k (hk:k<((p'.toList.drop lo).take n).length),p'.getD (lo+k) 0=((p'.toList.drop lo).take n)[k]:=λk hk=>by
  rw[ln]at hk;rw[gD,Jz (by rw[Array.length_toList];omega),J7,Ko];rfl
 show r _<=r _;rw[<-ga,<-ga];exact q
theorem Ak(hc:`j){mr m lo:Nat}{Y:aT}{st:Nf}(h:dU κ it r N m lo Y st)(hlo:lo<N):wpS `g A E s (Am N mr lo) (λc st'=>∃n Y',0<n/\lo+n<=N/\Cj κ it r N lo n Y' c st') st:=by
 obtain⟨p,pd,g,Rs,rfl,hp,e,el,hR,em⟩:=h;unfold Am;rw[if_neg `o];refine Ng (pB hc hp `o `o λn p' S n1 n2 u=>?_);dsimp only;by_cases z:n<mr
 ·rw[if_pos z];refine Ng (Nq (M6 ⟨rfl,?_⟩));refine Ng (lN hc S.pm `o n1 `o u λp2 S2 u2=>?_);simp only[J3,Jt,if_false];obtain⟨L,Y',l1,l2,l3⟩:=nH (κ:=κ) (it:=it) (m:=m) (g:=g) hp e el hR em (S.trans S2) u2 `o
  have:=uB (E:=E) (size:=N) hc l3 l2 `o
  rw[l1]at this;exact Nh this λc st' q=>⟨_,Y',by omega,by omega,q⟩
 ·rw[if_neg z];obtain⟨L,Y',l1,l2,l3⟩:=nH (κ:=κ) (it:=it) (m:=m) (g:=g) hp e el hR em S u `o
  have:=uB (E:=E) (size:=N) hc l3 l2 `o
  rw[l1]at this;exact Nh this λc st' q=>⟨_,Y',by omega,by omega,q⟩
theorem p7:∀{Rs:List aT}{ts:List (Nat×Nat×Nat)}{s:Nat},cK r s Rs ts->Rs.length<=Rs.flatten.length
 |[],[],_,_=>IJ _
 |L::Rs,t::ts,_,h=>by
  obtain⟨_,_,h3,_,h5⟩:=h
  have:=p7 h5
  rw[Jl,Kp,IY];omega
 |[],_::_,_,h=>h.elim
 |_::_,[],_,h=>h.elim
theorem qb(hc:`j)(h1:1<=N){p:Array Nat}(hp:PM N p){Q:Unit->Nf->Prop}(h:∀p' pd g,PM N p'->Up r p' N->Q () (Zs κ it pd g p')):wpS `g A E s sortRuns' Q (Zs κ it #[] 7 p):=by
 have hs:=hp.size;rw[pf];refine Ng (Np ?_);have sz:(arrOf (Zs κ it #[] 7 p)).size=N:=by show(p.map (Nn it)).size=N;rw[Array.size_map,hs]
 rw[sz];refine Ng (Nh (Ni (I:=λx c st'=>∃lo m Y,c=(none,lo)/\lo<=N/\x<=lo/\dU κ it r N m lo Y st')
  (Q:=λc st'=>∃m Y,c=(none,N)/\dU κ it r N m N Y st') ?_ ?_ ⟨0,0,p.toList,rfl,by omega,by omega,p,#[],7,[],rfl,hp,rfl,rfl,True.intro,rfl⟩) ?_)
 ·rintro x c st' _ hx ⟨lo,m,Y,rfl,l1,l2,S⟩;dsimp only;by_cases z:lo<N
  ·refine Nh (Ak hc S z) λc st' q=>?_;obtain⟨n,Y',n1,n2,m',rfl,m0,S'⟩:=q;exact⟨lo+n,m',Y',rfl,n2,by omega,S'⟩
  ·have:lo=N:=(by omega);subst this;unfold Am;rw[if_pos (IJ _)];exact Nj ⟨m,Y,rfl,S⟩
 ·rintro c st' ⟨lo,m,Y,rfl,l1,l2,S⟩
  have:lo=N:=by omega
  subst this;exact⟨m,Y,rfl,S⟩
 ·rintro c st' ⟨m,Y,rfl,S⟩;dsimp only;have S':=S;obtain⟨p',pd,g,Rs,rfl,hp',e,el,hR,em⟩:=S';have few:=p7 hR;have m0:0<m:=by
   rcases Kr m with z|z
   ·rw[z,Kk]at em;subst em
    have:(0:Nat)=N:=el
    omega
   ·exact z
  refine Ng (An hc S m0 `o λst' S'=>?_);obtain⟨p',pd,g,Rs,rfl,hp',e,el,hR,em⟩:=S'
  match Rs,em with
  |[L],_=>
   dsimp only;refine Nj (h p' pd g hp' λi j hij hj=>?_)
   match hpd:pd.toList,hR with
   |t::ts,hR=>
    have hL:=hR.2.2.2.1;have e:p'.toList=L++Y:=(by rw[e];simp);have ll:L.length=N:=(by simpa using el);show r _<=r _;rw[gD,gD,e,IU `o,IU `o];exact gX hL hij `o
   |[],hR=>exact hR.elim
end
end TG
namespace TG
open PySem PySem.Spec PyProof.Rows PySem.W L2
variable[aq]
section
variable{prog:Mh}{w:Mg}{A:Mo}{E:aD}{s:Mf}{κ:Nk}{ks vs:aF}{r:Nat->Nat}
theorem Bb(hl:ks.length=vs.length)(h1:1<=vs.length)(hr:bC (kas_ask prog w A κ ks) r vs.length s){Q:Nf->cF}
  (hQ:∀p st',arrOf st'=p.map (Nn (ks.toArray.zip vs.toArray))->failedOf st'=none->PM vs.length p->Up r p vs.length->Q st' s):
  Mr `g A ((sortRuns').run (SortSt.mk' κ (ks.toArray.zip vs.toArray) #[] 7 none)) (λr s'=>Q r.2 s') E s:=by
 rw[kat_ask_eq hl]at hr;have e:=kas_range (ks.toArray.zip vs.toArray);rw[show(ks.toArray.zip vs.toArray).size=vs.length by simp[hl]]at e;have run:=qb (E:=E) (Q:=λ_ st'=>Q st' s) hr h1 (p:=List.toArray (List.range vs.length)) (Array.Perm.refl _) λp' pd g hp hu=>hQ p' _ rfl rfl hp hu;unfold wpS at run;have est:SortSt.mk' κ (ks.toArray.zip vs.toArray) #[] 7 none=Zs κ (ks.toArray.zip vs.toArray) #[] 7 (List.toArray (List.range vs.length)):=by
  show SortSt.mk' κ (ks.toArray.zip vs.toArray) #[] 7 none=SortSt.mk' κ ((List.toArray (List.range vs.length)).map (Nn (ks.toArray.zip vs.toArray))) #[] 7 none;rw[e]
 rw[est];refine Mt run (λr s' q=>?_) λ_ _ z=>z;obtain⟨rfl,q⟩:=q;exact q
end
end TG
namespace TG
open PySem PySem.Spec PyProof.Rows PySem.W L2
variable[aq]
section
variable{prog:Mh}{w:Mg}{A:Mo}{E:aD}{s:Mf}
theorem mW{a:Ma}{vs:aF}{n:Nat}{P:PySem.Fin->cF}{κ:Nk}{r:Nat->Nat}(ho:s.heap.get? a=some (seqObj "list" vs.toArray n))(h64:vs.length<1000)
  (hk:2<=vs.length->∀h':Mj,(∀b o,b≠a->s.heap.get? b=some o->h'.get? b=some o)->∀(Q:Nk->cF),Q κ {s with heap:=h'}->Mr `g A (keyKind' vs.toArray) Q E {s with heap:=h'})
  (hr:2<=vs.length->∀h':Mj,(∀b o,b≠a->s.heap.get? b=some o->h'.get? b=some o)->bC (kas_ask prog w A κ vs) r vs.length {s with heap:=h'})
  (h:∀p:Array Nat,PM vs.length p->Up r p vs.length->P (.done (.ret .none)) {s with heap:=sortedHeap s.heap a vs (List.toArray (p.toList.map λi=>vs.getD i Value.none))}):
  Mr `g A (Builtin.«list.sort» ⟨[.ref a],[]⟩) P E s:=by
 rw[list_sort_plain];have ha:a<s.heap.objs.size:=Lv ho;refine My (listItems_at ho rfl ?_);refine My (Nu ho rfl ?_ (by rw[IL,MD];omega) (Jq _));obtain⟨e1,ho1⟩:∃e1,(s.heap.update a (Obj.mapSeq λ_=>(#[]:Array L8))).get? a=some (seqObj "list" #[] e1):=⟨_,get?_update_seq ho (λ_=>#[])⟩
 refine My (seqEpoch_at ho1 rfl ?_);refine My (wpAny_newTuple ?_ (by show vs.length<=_;rw[MD];omega));refine My (wpAny_newList ?_ (Jq _));refine MQ ?_;have ho6:(((s.heap.update a (Obj.mapSeq λ_=>(#[]:Array L8))).push (seqObj "tuple" vs.toArray 0)).push (seqObj "list" #[] 0)).get? a=some (seqObj "list" #[] e1):=by
  rw[LC _ _ _ (by rw[size_push',Heap.size_update];exact Iw (Ju ha)),LC _ _ _ (by rw[Heap.size_update];exact Iw ha)];exact ho1
 have kept:∀b o,b≠a->s.heap.get? b=some o->(((s.heap.update a (Obj.mapSeq λ_=>(#[]:Array L8))).push (seqObj "tuple" vs.toArray 0)).push (seqObj "list" #[] 0)).get? b=some o:=λb o hb e=>
  Ly _ (Ly _ (by rw[LD _ _ _ _ hb];exact e))
 show Mr `g A _ P E {s with heap:=((s.heap.update a (Obj.mapSeq λ_=>(#[]:Array L8))).push (seqObj "tuple" vs.toArray 0)).push (seqObj "list" #[] 0)};dsimp only;have hsz:vs.toArray.size=vs.length:=by simp
 by_cases h2:vs.toArray.size<2
 ·rw[if_pos h2,if_pos h2];refine My (Mx ?_);rw[StateT.run_pure];refine My (Mx ?_);dsimp only;refine My (seqEpoch_at ho6 rfl ?_);have hout:(arrOf (SortSt.mk' general' (vs.toArray.zip vs.toArray) #[] 7 none)).map (·.2)=List.toArray ((List.toArray (List.range vs.length)).toList.map λi=>vs.getD i Value.none):=by
   refine kat_snds rfl ?_;show vs.toArray.zip vs.toArray=_;have e:=kas_range (vs.toArray.zip vs.toArray);rw[show(vs.toArray.zip vs.toArray).size=vs.length by simp]at e;exact e.symm
  rw[hout];refine My (Nu ho6 rfl ?_ (Jq _) (by rw[IL,IZ,MD];simp;omega));simp only[bne_self_eq_false,Jt,if_false];refine Mx (h _ (Array.Perm.refl _) λi j hij hj=>?_)
  have:i=j:=by omega
  subst this;exact IJ _
 ·rw[if_neg h2,if_neg h2];have h2':2<=vs.length:=by omega
  refine My (hk h2' _ kept _ ?_);refine My (Mt (Bb (Q:=λst' s'=>∃p:Array Nat,arrOf st'=p.map (Nn (vs.toArray.zip vs.toArray))/\failedOf st'=none/\PM vs.length p/\Up r p vs.length/\s'={s with heap:=((s.heap.update a (Obj.mapSeq λ_=>(#[]:Array L8))).push (seqObj "tuple" vs.toArray 0)).push (seqObj "list" #[] 0)})
   rfl `o (hr h2' _ kept) λp st' a1 a2 a3 a4=>⟨p,a1,a2,a3,a4,rfl⟩) ?_ λ_ _ e=>e)
  rintro⟨⟨⟩,st'⟩ s' ⟨p,har,hf,hp,hu,rfl⟩;dsimp only;refine My (seqEpoch_at ho6 rfl ?_);have hout:=kat_snds rfl har;rw[hout];refine My (Nu ho6 rfl ?_ (Jq _) (by rw[IL,IZ,Array.length_toList,hp.size,MD];omega));rw[hf];simp only[bne_self_eq_false,Jt,if_false];exact Mx (h p hp hu)
theorem lJ{src:L8}{vs:aF}{Q:aD}{κ:Nk}{r:Nat->Nat}(h64:vs.length<1000)
  (hcol:∀(Q':aF->cF),(∀h' tk,(∀b o,s.heap.get? b=some o->h'.get? b=some o)->Q' vs {s with heap:=h',toks:=tk})->Mr `g A.in1 (collect src) Q' E s)
  (hk:2<=vs.length->∀(h':Mj)(tk:Nat),(∀b o,s.heap.get? b=some o->h'.get? b=some o)->∀(Q:Nk->cF),Q κ {s with heap:=h',toks:=tk}->Mr `g A.in1.in1 (keyKind' vs.toArray) Q E {s with heap:=h',toks:=tk})
  (hr:2<=vs.length->∀(h':Mj)(tk:Nat),(∀b o,s.heap.get? b=some o->h'.get? b=some o)->bC (kas_ask prog w A.in1.in1 κ vs) r vs.length {s with heap:=h',toks:=tk})
  (h:∀(p:Array Nat)(h1 h':Mj)(l:Ma)(e tk:Nat),PM vs.length p->Up r p vs.length->(∀b o,s.heap.get? b=some o->h1.get? b=some o)->(∀b o,h1.get? b=some o->h'.get? b=some o)->h1.objs.size<=l->h'.get? l=some (seqObj "list" (List.toArray (p.toList.map λi=>vs.getD i Value.none)) e)->Q (.ref l) {s with heap:=h',toks:=tk}):
  Mr `g A (call (.builtin "sorted") [src]) Q E s:=by
 refine Calls.call_function_entry kind_sorted plain_sorted entry_sorted (args_sorted1 _) ?_;unfold Builtin.«sorted»;refine My (m:=checkCount "sorted" 1 1 _) (Mx ?_);refine My (hcol _ λh1 tk k1=>?_);refine My (wpAny_newList ?_ (by rw[MD];omega));have hoL:(h1.push (seqObj "list" vs.toArray 0)).get? h1.objs.size=some (seqObj "list" vs.toArray 0):=Lz _ rfl;have k2:∀b o,s.heap.get? b=some o->(h1.push (seqObj "list" vs.toArray 0)).get? b=some o:=λb o e=>Ly _ (k1 b o e);have ne:∀b o,s.heap.get? b=some o->b≠h1.objs.size:=λb o e=>Iw (Lv (k1 b o e));refine My (MQ (MS slot_list_sort ⟨_,hoL,rfl⟩ entry_list_sort (mW (s:={s with heap:=h1.push (seqObj "list" vs.toArray 0),toks:=tk}) (r:=r) (κ:=κ) hoL h64
  (λh2 h' k=>hk h2 h' tk λb o e=>k b o (ne b o e) (k2 b o e)) (λh2 h' k=>hr h2 h' tk λb o e=>k b o (ne b o e) (k2 b o e)) λp hp hu=>⟨_,rfl,?_⟩) (args_list_sort _)))
 refine Mx ⟨_,rfl,?_⟩;obtain⟨e,he⟩:=sortedHeap_at (vs:=vs) (out:=List.toArray (p.toList.map λi=>vs.getD i Value.none)) hoL;exact h p h1 _ h1.objs.size e tk hp hu k1 (λb o q=>by rw[sortedHeap_old (Iw (Lv q)) (by rw[size_push'];exact Ju (Lv q))];exact Ly _ q) (IJ _) he
end
noncomputable def ca:D->List D
 |.tup ks=>ks
 |_=>[]
noncomputable def oneOf(d:D):List D:=[d]
noncomputable def Fj(xs:List D):Prop:=xs.length<1000/\∃σ:a8,σ≠[]/\(∀x∈xs,∃k,x=.tup k/\Sh σ k)/\xs.Pairwise λx y=>ca x≠ca y
noncomputable def Hy(xs:List D):Prop:=xs.length<1000/\∃b:Bool,(∀x∈xs,Sh [b] [x])/\xs.Pairwise λx y=>oneOf x≠oneOf y
open Classical in
noncomputable def kM(xs:List D):aU:=if Fj xs then some (.lst (bN ca xs))else if Hy xs then some (.lst (bN oneOf xs))else none
noncomputable def dF:List D->aU
 |[.lst xs]=>kM xs
 |[.tup xs]=>kM xs
 |_=>none
theorem qZ{prog:Mh}{w:Mg}{A:Mo}{s:Mf}{Q:Bool->cF}{fin:Bool}(hf:fin=false){σ:a8}{ns ms:List D}{xs ys:aF}{i:Nat}(h1:Sh σ ns)(h2:Sh σ ms)(f1:dy xs ns)(f2:dy ys ms)(h:Q (kLt ns ms) s):KatLex prog w A true fin Q (xs.zip ys) i s:=by
 induction h1 generalizing ms xs ys i with
 |nil=>
  cases h2;cases f1;cases f2;subst hf;exact kat_nil (by simpa [kLt,cw]using h)
 |int a h1 ih=>
  cases h2 with|int c h2=>
  cases f1 with|int _ t f1=>
  cases f2 with|int _ u f2=>
  rw[JS];obtain⟨e,he,hiff⟩:=BD A s a t c u;refine kat_cons (he prog w _ _ ?_);cases e with
  |true=>
   have ac:=hiff.mp rfl;refine kat_yes (ih h2 f1 f2 ?_);unfold kLt at h ⊢;rw[mz,if_pos ac]at h;exact h
  |false=>
   have ac:¬a=c:=λq=>absurd (hiff.mpr q) II;have h':Q (decide (a<c)) s:=by
    unfold kLt at h;rw[mz,if_neg ac]at h;cases hd:decide (a<c)<;>rw[hd]at h<;>exact h
   refine kat_no ?_;cases hi:(i==0)with
   |true=>exact oneLt_int h'
   |false=>exact kat_one _ _ (PySem.P.lt_int (show Lg Q (.bool _) s from h'))
 |str a h1 ih=>
  cases h2 with|str c h2=>
  cases f1 with|str _ t f1=>
  cases f2 with|str _ u f2=>
  rw[JS];obtain⟨e,he,hiff⟩:=BV A s a t c u;refine kat_cons (he prog w _ _ ?_);cases e with
  |true=>
   have ac:=hiff.mp rfl;refine kat_yes (ih h2 f1 f2 ?_);unfold kLt at h ⊢;rw[mD,if_pos ac]at h;exact h
  |false=>
   have ac:¬a=c:=λq=>absurd (hiff.mpr q) II;have h':Q (decide (a.cps.toList<c.cps.toList)) s:=by
    unfold kLt at h;rw[mD,if_neg ac]at h;cases hd:decide (a.cps.toList<c.cps.toList)<;>rw[hd]at h<;>exact h
   refine kat_no ?_;cases hi:(i==0)with
   |true=>exact oneLt_str h'
   |false=>exact kat_one _ _ (PySem.P.lt_str (show Lg Q (.bool _) s from h'))
theorem lE{h:Mj}{PT:L8->Prop}:∀{its:aF},(∀v∈its,∃a o xs n f,v=.ref a/\h.get? a=some o/\o.cls=.type "tuple"/\o.data=.seq xs n/\xs[0]?=some f/\PT f)->∃fs,KatTups h its fs/\fs.length=its.length/\∀f∈fs,PT f
 |[],_=>⟨[],.nil,rfl,λ_ h=>nomatch h⟩
 |v::its,hh=>by
  obtain⟨a,o,xs,n,f,rfl,h1,h2,h3,h4,h5⟩:=hh v IB;obtain⟨fs,k1,k2,k3⟩:=lE (its:=its) λu hu=>hh u (IC _ hu);refine⟨f::fs,.cons h1 h2 h3 h4 k1,by rw[Jl,Jl,k2],λg hg=>?_⟩;rcases List.mem_cons.mp hg with rfl|z
  ·exact h5
  ·exact k3 g z
theorem dy.first{σ:a8}{b:Bool}{xs:aF}{ns:List D}(f:dy xs ns)(h:Sh (b::σ) ns):∃v,xs[0]?=some v/\typeOf v=pure (.type (if b then"int"else"str")):=by
 cases f with
 |nil=>cases h
 |int i t f=>cases h;exact⟨_,rfl,rfl⟩
 |str i t f=>cases h;exact⟨_,rfl,rfl⟩
theorem qd{key:D->List D}{σ:a8}{ds:List D}(h:∀x∈ds,Sh σ (key x))(pw:ds.Pairwise λx y=>key x≠key y){p:Array Nat}(hp:PM ds.length p)(hu:Up (rank (ds.map key)) p ds.length):p.toList.map (λi=>ds.getD i .non)=bN key ds:=by
 have hr:p.toList.Perm (List.range ds.length):=by
  have:=Array.perm_iff_toList_perm.mp hp
  simpa using this
 have hmap:(List.range ds.length).map (λi=>ds.getD i .non)=ds:=by
  apply List.ext_getElem
  ·simp
  ·intro i h1 h2;simp at h1;simp[h1]
 have hperm:(p.toList.map λi=>ds.getD i .non).Perm ds:=by
  have:=hr.map (λi=>ds.getD i .non)
  rwa [hmap]at this
 have hn:p.toList.Nodup:=hr.nodup_iff.mpr List.nodup_range;refine(wj h pw ?_ hperm).symm;have hl:p.toList.length=ds.length:=by rw[hr.length_eq,JK]
 have kd:∀i,i<ds.length->(ds.map key).getD i []=key (ds.getD i .non):=λi hi=>by simp[hi]
 have hsh:∀k∈ds.map key,Sh σ k:=λk hk=>by
  obtain⟨x,hx,rfl⟩:=List.mem_map.mp hk;exact h x hx
 unfold rW;rw[Ku,List.pairwise_iff_getElem];intro i j hi hj hij;have hi':p.toList[i]<ds.length:=by simpa using hr.mem_iff.mp (JZ hi)
 have hj':p.toList[j]<ds.length:=by simpa using hr.mem_iff.mp (JZ hj)
 have ne:p.toList[i]≠p.toList[j]:=List.pairwise_iff_getElem.mp hn i j hi hj hij;have up:=hu i j `o `o;have gi:p.getD i 0=p.toList[i]:=by
  have:i<p.size:=by rw[<-Array.length_toList];exact hi
  simp[Array.getD,this]
 have gj:p.getD j 0=p.toList[j]:=by
  have:j<p.size:=by rw[<-Array.length_toList];exact hj
  simp[Array.getD,this]
 unfold Rk at up;rw[gi,gj]at up;have rl:=oY hsh (i:=p.toList[j]) (j:=p.toList[i]) (by rw[IZ];exact hj') (by rw[IZ];exact hi');rw[kd _ hj',kd _ hi',decide_eq_false `o]at rl;have ei:ds.getD p.toList[i] .non=ds[p.toList[i]]:=by rw[Kv,Jz hi'];rfl
 have ej:ds.getD p.toList[j] .non=ds[p.toList[j]]:=by rw[Kv,Jz hj'];rfl
 have s1:=h _ (show ds.getD p.toList[i] .non∈ds by rw[ei];exact JZ hi');have s2:=h _ (show ds.getD p.toList[j] .non∈ds by rw[ej];exact JZ hj');rcases lr s1 s2 with⟨z,_⟩|z|⟨z,_⟩
 ·exact z
 ·exfalso;have pw':=List.pairwise_iff_getElem.mp pw;rw[ei,ej]at z;rcases Nat.lt_or_gt_of_ne ne with q|q
  ·exact pw' _ _ hi' hj' q z
  ·exact pw' _ _ hj' hi' q z.symm
 ·rw[A8.mpr z]at rl;cases rl
theorem nW{vs:aB}{us:aF}(r:Vals vs us):∀l:aT,(∀i∈l,i<vs.length)->Vals (l.map λi=>vs.getD i .non) (l.map λi=>us.getD i Value.none)
 |[],_=>.nil
 |i::l,h=>by
  have hi:=h i IB;obtain⟨u,e,q⟩:=r.get (i:=i) (x:=vs[i]) (by simp[hi]);refine .cons ?_ (nW r l λj hj=>h j (IC _ hj));have e1:vs.getD i .non=vs[i]:=by simp[hi]
  have e2:us.getD i Value.none=u:=by simp[Kv,e]
  show L2.RelV (vs.getD i .non) (us.getD i Value.none);rw[e1,e2];exact q
theorem ot{K:KZ}{H:Hp}{ds:List D}{vs:aB}(g:ax K H ds vs):∀l:aT,(∀i∈l,i<ds.length)->ax K H (l.map λi=>ds.getD i .non) (l.map λi=>vs.getD i .non)
 |[],_=>bB.mpr rfl
 |i::l,h=>by
  have hi:=h i IB;obtain⟨v,e,q⟩:=g.get (i:=i) (d:=ds[i]) (by simp[hi]);refine aK.mpr ⟨_,_,rfl,?_,ot g l λj hj=>h j (IC _ hj)⟩;have e1:ds.getD i .non=ds[i]:=by simp[hi]
  have e2:vs.getD i .non=v:=by simp[Kv,e]
  show bv K H (ds.getD i .non) (vs.getD i .non);rw[e1,e2];exact q
section
variable{X:Cx}{pins:aG}{s:Mf}{σ:L2.St}{H:Hp}{O:au}
theorem jI{u:L8}{ds:List D}{vs:aB}{its:aF}{d:D}{Q:VK}(I:`h)(hO:bQ H O)(dn:ax X.K (hid H O) ds vs)(rv:Vals vs its)(hs:kM ds=some d)
  (hcol:∀(Q':aF->cF),(∀h' tk,(∀b o,s.heap.get? b=some o->h'.get? b=some o)->Q' its {s with heap:=h',toks:=tk})->Mr `i X.A.in1 (collect u) Q' X.xe s)
  (q:∀v H',aI H H'->bv X.K (hid H' O) d v->Q v H'):Mr `i X.A (call (.builtin "sorted") [u]) (EP X pins σ Q) X.xe s:=by
 have l1:=dn.length;have l2:=rv.length;have fin:∀(key:D->List D)(σ':a8),(∀x∈ds,Sh σ' (key x))->ds.Pairwise (λx y=>key x≠key y)->ds.length<1000->d=.lst (bN key ds)->∀(p:Array Nat)(h1 h':Mj)(l:Ma)(e tk:Nat),PM its.length p->Up (rank (ds.map key)) p its.length->(∀b o,s.heap.get? b=some o->h1.get? b=some o)->(∀b o,h1.get? b=some o->h'.get? b=some o)->h1.objs.size<=l->
   h'.get? l=some (seqObj "list" (List.toArray (p.toList.map λi=>its.getD i Value.none)) e)->EP X pins σ Q (.ref l) {s with heap:=h',toks:=tk}:=by
  intro key σ' hsh pw h64 ed p h1 h' l e tk hp hu k1 k2 hl he;have el:its.length=ds.length:=by omega
  rw[el]at hp hu;have ps:=qd hsh pw hp hu;have hr:p.toList.Perm (List.range ds.length):=by
   have:=Array.perm_iff_toList_perm.mp hp
   simpa using this
  have hlt:∀i∈p.toList,i<ds.length:=λi hi=>by simpa using hr.mem_iff.mp hi
  have I1:Inv X pins σ H {s with heap:=h1,toks:=tk}:=I.kept k1;have hn:H l=none:=I1.hok.fresh hl;have rv':=nW rv p.toList λi hi=>by have:=hlt i hi;omega
  have dn':=ot dn p.toList hlt;have hlen:p.toList.length=ds.length:=by rw[hr.length_eq,JK]
  refine⟨.ref l,_,Inv.laid (s:={s with heap:=h1,toks:=tk}) (t':=tk) I1 k2 hl (show a7 X.prog X.w _ h' _ (.lst (p.toList.map λi=>vs.getD i .non))from⟨by rw[IZ,hlen,MD];omega,_,e,rv',he⟩),rfl,?_⟩;refine q _ _ (aW hn _) ?_;rw[ed,<-ps];exact ck hO hn dn'
 unfold kM at hs;split at hs
 ·rename_i h;cases hs;obtain⟨h64,σ',hσ,hsh,pw⟩:=h;obtain⟨b,σ1,rfl⟩:∃b σ1,σ'=b::σ1:=by
   cases σ' with
   |nil=>exact absurd rfl hσ
   |cons b σ1=>exact⟨b,σ1,rfl⟩
  have hsh':∀x∈ds,Sh (b::σ1) (ca x):=λx hx=>by
   obtain⟨k,rfl,hk⟩:=hsh x hx;exact hk
  have at':∀i (hi:i<ds.length),∃a o xs n,its[i]?=some (.ref a)/\s.heap.get? a=some o/\o.cls=.type "tuple"/\o.data=.seq xs n/\dy xs.toList (ca ds[i]):=λi hi=>by
   obtain⟨v,e1,dv⟩:=dn.get (i:=i) (d:=ds[i]) (by simp[hi]);obtain⟨w,e2,rw'⟩:=rv.get e1;obtain⟨k,ek,hk⟩:=hsh _ (JZ hi);rw[ek]at dv ⊢;obtain⟨a,ws,rfl,ha,dk⟩:=bh.mp dv;cases rw';obtain⟨it2,r2,⟨o,ho,hc,n,hd⟩,_⟩:=I.tuple (aV (aj H O) ha);exact⟨a,o,_,n,e2,ho,hc,hd,by simpa [ca]using g7 (oW hk) dk r2⟩
  refine lJ (κ:=tuples' true) (r:=rank (ds.map ca)) `o hcol (λh2 h' tk kp Q' hQ=>?_) (λh2 h' tk kp i j C hi hj hC=>?_) (fin ca _ hsh' pw h64 rfl)
  ·obtain⟨fs,t1,t2,t3⟩:=lE (h:=h') (PT:=λf=>typeOf f=pure (.type (if b then"int"else"str"))) (its:=its) λv hv=>by
    obtain⟨i,hi,rfl⟩:=J6 hv;obtain⟨a,o,xs,n,e1,ho,hc,hd,ff⟩:=at' i `o;obtain⟨f,ef,tf⟩:=ff.first (hsh' _ (JZ _));refine⟨a,o,xs,n,f,?_,kp _ _ ho,hc,hd,by simpa using ef,tf⟩
    have:=Jz hi
    rw[e1]at this;exact(Option.some.inj this).symm
   refine kat_kind (T:=.type (if b then"int"else"str")) t1 `o (λf hf=>Looks.of_pure (t3 f hf)) (by cases b<;>rfl) ?_
   have:(Value.type (if b then"int"else"str") !=Value.type "tuple")=true:=(by cases b<;>rfl);rw[this];exact hQ
  ·obtain⟨a,o,xs,n,e1,ho,hc,hd,ff⟩:=at' i `o;obtain⟨a2,o2,xs2,n2,e2,ho2,hc2,hd2,ff2⟩:=at' j `o;unfold kas_ask;have g1:its.getD i Value.none=.ref a:=(by simp[Kv,e1]);have g2:its.getD j Value.none=.ref a2:=(by simp[Kv,e2]);rw[g1,g2];have hi':i<ds.length:=(by omega);have hj':j<ds.length:=(by omega);have sh1:=hsh' _ (JZ hi');have sh2:=hsh' _ (JZ hj');have rl:=oY (ks:=ds.map ca) (σ:=b::σ1) (λk hk=>by obtain⟨x,hx,rfl⟩:=List.mem_map.mp hk;exact hsh' x hx) (i:=i) (j:=j) (by rw[IZ];exact hi') (by rw[IZ];exact hj');have k1:(ds.map ca).getD i []=ca ds[i]:=(by simp[hi']);have k2:(ds.map ca).getD j []=ca ds[j]:=(by simp[hj']);rw[k1,k2]at rl;rw[rl]at hC;refine kat_lt (kp _ _ ho) hd (kp _ _ ho2) hd2 (qZ ?_ sh1 sh2 ff ff2 hC);have z1:xs.size=(ca ds[i]).length:=(by have:=ff.length;simpa using this);have z2:xs2.size=(ca ds[j]).length:=(by have:=ff2.length;simpa using this);have z3:(ca ds[i]).length=(ca ds[j]).length:=(by rw[Sh.length sh1,Sh.length sh2]);exact decide_eq_false `o
 ·split at hs
  ·rename_i _ h;cases hs;obtain⟨h64,b,hsh,pw⟩:=h;have at':∀i (hi:i<ds.length),(∃(n:Int)(t:Tok),b=true/\its[i]?=some (.int n t)/\ds[i]=.int n)\/∃(x:Str)(t:Tok),b=false/\its[i]?=some (.str x t)/\ds[i]=.str x:=λi hi=>by
    obtain⟨v,e1,dv⟩:=dn.get (i:=i) (d:=ds[i]) (by simp[hi]);obtain⟨w,e2,rw'⟩:=rv.get e1;have hk:=hsh _ (JZ hi);generalize ds[i]=di at dv hk;cases hk with
    |int n _=>
     rw[dm]at dv;subst dv;obtain⟨t,rfl⟩:=rw';exact .inl ⟨n,t,rfl,e2,rfl⟩
    |str x _=>
     rw[cM]at dv;subst dv;obtain⟨t,rfl⟩:=rw';exact .inr ⟨x,t,rfl,e2,rfl⟩
   refine lJ (κ:=oneType') (r:=rank (ds.map oneOf)) `o hcol (λh2 h' tk kp Q' hQ=>?_) (λh2 h' tk kp i j C hi hj hC=>?_) (fin oneOf [b] hsh pw h64 rfl)
   ·refine kas_kind (T:=.type (if b then"int"else"str")) h2 (λv hv=>?_) (by cases b<;>rfl) (by cases b<;>rfl) hQ;obtain⟨i,hi,rfl⟩:=J6 hv;have hg:=Jz hi;rcases at' i `o with⟨n,t,rfl,e,_⟩|⟨x,t,rfl,e,_⟩
    ·rw[hg]at e;rw[Option.some.inj e];exact Looks.of_pure rfl
    ·rw[hg]at e;rw[Option.some.inj e];exact Looks.of_pure rfl
   ·have hi':i<ds.length:=(by omega);have hj':j<ds.length:=(by omega);unfold kas_ask;have rl:=oY (ks:=ds.map oneOf) (σ:=[b]) (λk hk=>by obtain⟨x,hx,rfl⟩:=List.mem_map.mp hk;exact hsh x hx) (i:=i) (j:=j) (by rw[IZ];exact hi') (by rw[IZ];exact hj');have k1:(ds.map oneOf).getD i []=[ds[i]]:=(by simp[hi',oneOf]);have k2:(ds.map oneOf).getD j []=[ds[j]]:=(by simp[hj',oneOf]);rw[k1,k2]at rl;rw[rl]at hC;rcases at' i hi' with⟨n,t,hb,e1,q1⟩|⟨x,t,hb,e1,q1⟩
    ·rcases at' j hj' with⟨n2,t2,hb2,e2,q2⟩|⟨x2,t2,hb2,e2,q2⟩
     ·have g1:its.getD i Value.none=.int n t:=(by simp[Kv,e1]);have g2:its.getD j Value.none=.int n2 t2:=(by simp[Kv,e2]);rw[g1,g2,keyLt'_oneType];refine oneLt_int ?_;rw[q1,q2]at hC;unfold kLt at hC;rw[mz]at hC;by_cases z:n=n2
      ·rw[if_pos z]at hC;rw[decide_eq_false `o];exact hC
      ·rw[if_neg z]at hC;cases hd:decide (n<n2)<;>rw[hd]at hC<;>exact hC
     ·rw[hb]at hb2;cases hb2
    ·rcases at' j hj' with⟨n2,t2,hb2,e2,q2⟩|⟨x2,t2,hb2,e2,q2⟩
     ·rw[hb]at hb2;cases hb2
     ·have g1:its.getD i Value.none=.str x t:=(by simp[Kv,e1]);have g2:its.getD j Value.none=.str x2 t2:=(by simp[Kv,e2]);rw[g1,g2,keyLt'_oneType];refine oneLt_str ?_;rw[q1,q2]at hC;unfold kLt at hC;rw[mD]at hC;by_cases z:x=x2
      ·rw[if_pos z]at hC;rw[decide_eq_false (by rw[z];exact md _)];exact hC
      ·rw[if_neg z]at hC;cases hd:decide (x.cps.toList<x2.cps.toList)<;>rw[hd]at hC<;>exact hC
  ·cases hs
theorem pJ:dz X (.builtin "sorted") (zk X.K dF):=by
 rintro pins s σ H xs us Q I r ⟨O,ds,d,hO,hd,hg,q⟩;unfold dF at hg;split at hg
 ·obtain⟨v,rfl,h1⟩:=hd.one;obtain⟨p,ws,rfl,g1,g2⟩:=bn.mp h1;obtain⟨u,rfl,ru⟩:=vals1 r;cases ru;obtain⟨its,rv,pl,hz⟩:=I.list ((aj H O).seq g1);have hlen:=rv.length;obtain⟨o,ho,hc,n,hd'⟩:=pl.isList;exact jI I hO g2 rv hg (λQ' hQ=>wpAny_collect_seq p (.inl rfl) ho hc hd' (λh' k=>by simpa using hQ h' s.toks k) (by simp only[IL]<;>omega)) q
 ·obtain⟨v,rfl,h1⟩:=hd.one;obtain⟨p,ws,rfl,g1,g2⟩:=bh.mp h1;obtain⟨u,rfl,ru⟩:=vals1 r;cases ru;obtain⟨its,rv,⟨o,ho,hc,n,hd'⟩,hz⟩:=I.tuple (aV (aj H O) g1);have hlen:=rv.length;exact jI I hO g2 rv hg (λQ' hQ=>wpAny_collect_seq p (.inr rfl) ho hc hd' (λh' k=>by simpa using hQ h' s.toks k) (by simp only[IL]<;>omega)) q
 ·cases hg
end
end TG
namespace TG
open PySem PySem.Spec L2
variable[aq]
section
variable{X:Cx}{tg:Mb}
end
end TG
namespace TG
open PySem PySem.Spec L2
variable[aq]
end TG
namespace TG
open PySem PySem.Spec L2
variable[aq]
end TG
namespace TG
open PySem PySem.Spec L2
variable[aq]
noncomputable def keyOf:D->Option Key
 |.int i=>some (.inl i)
 |.str x=>some (.inr x)
 |_=>none
noncomputable def keysOf:List D->Option (aE)
 |[]=>some []
 |d::r=>(keyOf d).bind λk=>(keysOf r).map (k::·)
noncomputable def cy:D->Option (aE)
 |.tup ds=>keysOf ds
 |_=>none
theorem xf{d:D}{k:Key}(h:keyOf d=some k):d=aJ k:=by
 cases d with
 |int i=>cases h;rfl
 |str x=>cases h;rfl
 |_=>cases h
theorem nZ:∀{ds:List D}{ks:aE},keysOf ds=some ks->ds=ks.map aJ
 |[],_,h=>by cases h;rfl
 |d::r,ks,h=>by
  unfold keysOf at h;cases e1:keyOf d with
  |none=>rw[e1]at h;cases h
  |some k=>
   rw[e1]at h;cases e2:keysOf r with
   |none=>rw[e2]at h;cases h
   |some ks'=>rw[e2]at h;cases h;rw[xf e1,nZ e2];rfl
theorem dE{d:D}{k:aE}(h:cy d=some k):d=.tup (k.map aJ):=by
 cases d with
 |tup ds=>rw[nZ (show keysOf ds=some k from h)]
 |_=>cases h
theorem cj:∀ks:aE,keysOf (ks.map aJ)=some ks
 |[]=>rfl
 |k::r=>by
  show(keyOf (aJ k)).bind _=_;have e:keyOf (aJ k)=some k:=by cases k<;>rfl
  rw[e];show(keysOf (r.map aJ)).map (k::·)=_;rw[cj r];rfl
theorem xg{K:KZ}{H:Hp}{k:Key}{v:V}(h:bv K H (aJ k) v):v=kV k:=by
 cases k with
 |inl i=>exact dm.mp h
 |inr x=>exact cM.mp h
theorem b6{K:KZ}{H:Hp}:∀{ks:aE}{vs:aB},ax K H (ks.map aJ) vs->vs=ks.map kV
 |[],vs,h=>by rw[Jf,bB]at h;exact h
 |k::r,vs,h=>by
  rw[Jg,aK]at h;obtain⟨v,r',e1,h1,h2⟩:=h;rw[e1,xg h1,b6 h2];rfl
section
variable{P:Mh}{w:Mg}{H H':Hp}{h:Mj}{a:Ma}
theorem wc(x:a7 P w H h a (.dK [])):a7 P w H' h a (.dT []):=by
 obtain⟨z,hd,vs,rel,o,es,ep,h1,h2,h3,h4,h5,h6⟩:=x;have e:vs=[]:=by have:=rel.length;simpa using this.symm
 subst e;refine⟨Jq _,hd,[],.nil,o,es,ep,h1,h2,h3,?_,by simp⟩
 have:=h5.length
 simpa using this
theorem wm(x:a7 P w H h a (.dT [])):a7 P w H' h a (.dK []):=by
 obtain⟨z,hd,xs,rel,o,es,ep,h1,h2,h3,h4,h5⟩:=x;have e:xs=[]:=by have:=rel.length;simpa using this.symm
 subst e;have e2:es=#[]:=by simpa using h4
 subst e2;exact⟨Jq _,hd,[],.nil,o,#[],ep,h1,h2,h3,λe he=>by simp at he,.nil,by simp⟩
end
section
variable{X:Cx}{pins:aG}{σ:St}{H:Hp}{s:Mf}{a:Ma}
theorem pE(I:`h)(h1:H a=some (.dK [])):Inv X pins σ (upd H a (.dT [])) s:=by
 have hx:=I.hok a _ h1;have hq:∃q,s.heap.get? a=some q:=by obtain⟨_,_,_,_,o,_,_,e,_⟩:=id hx;exact⟨o,e⟩
 exact iJ (ob:=.dT []) (h':=s.heap) (t':=s.toks) I (by rw[h1];exact trivial) ⟨rfl,λ_ _=>rfl⟩ hq (wc hx)
theorem A7(I:`h)(h1:H a=some (.dT [])):Inv X pins σ (upd H a (.dK [])) s:=by
 have hx:=I.hok a _ h1;have hq:∃q,s.heap.get? a=some q:=by obtain⟨_,_,_,_,o,_,_,e,_⟩:=id hx;exact⟨o,e⟩
 exact iJ (ob:=.dK []) (h':=s.heap) (t':=s.toks) I (by rw[h1];exact trivial) ⟨rfl,λ_ _=>rfl⟩ hq (wm hx)
end
theorem jv{H:Hp}{a:Ma}{o1 o2:HO}(h:H a=some o1):upd (upd H a o2) a o1=H:=by
 funext b;by_cases e:b=a
 ·subst e;rw[ah,h]
 ·rw[ai e,ai e]
noncomputable def dS:List D->List D->Option (bu)
 |[],[]=>some []
 |k::ks,d::ds=>(cy k).bind λk=>(dS ks ds).map ((k,d)::·)
 |_,_=>none
noncomputable abbrev encK(al:bu):List D:=al.map λp=>.tup (p.1.map aJ)
noncomputable abbrev az(al:bu):D:=.dct (encK al) (al.map (·.2))
theorem dG:∀{ks ds:List D}{al:bu},dS ks ds=some al->ks=encK al/\ds=al.map (·.2)
 |[],[],_,h=>by cases h;exact⟨rfl,rfl⟩
 |k::ks,d::ds,al,h=>by
  unfold dS at h;cases e1:cy k with
  |none=>rw[e1]at h;cases h
  |some k'=>
   rw[e1]at h;cases e2:dS ks ds with
   |none=>rw[e2]at h;cases h
   |some al'=>
    rw[e2]at h;cases h;obtain⟨h1,h2⟩:=dG e2;rw[dE e1,h1,h2];exact⟨rfl,rfl⟩
 |[],_::_,_,h=>by cases h
 |_::_,[],_,h=>by cases h
theorem cx:∀al:bu,dS (encK al) (al.map (·.2))=some al
 |[]=>rfl
 |p::r=>by
  show(cy (.tup (p.1.map aJ))).bind _=_;have e:cy (.tup (p.1.map aJ))=some p.1:=cj p.1;rw[e];show(dS (encK r) (r.map (·.2))).map ((p.1,p.2)::·)=_;rw[cx r];rfl
theorem jo:∀{al:bu}{ks:List aE},encK al=ks.map (λk=>.tup (k.map aJ))->al.map (·.1)=ks
 |[],[],_=>rfl
 |p::r,k::ks,h=>by
  have h:D.tup (p.1.map aJ)::encK r=D.tup (k.map aJ)::ks.map (λk=>.tup (k.map aJ)):=h;injection h with h1 h2;injection h1 with h1;have e:some p.1=some k:=by rw[<-cj p.1,h1,cj k]
  rw[Jg,Option.some.inj e,jo h2]
 |[],_::_,h=>by cases h
 |_::_,[],h=>by cases h
theorem zh{K:KZ}{H:Hp}{O:au}{a:Ma}{al:bu}(h:bT K H O a (az al)):
  (∃kvs:List (List Key×V),H a=some (.dT kvs)/\kvs.map (·.1)=al.map (·.1)/\ax K (hid H O) (al.map (·.2)) (kvs.map (·.2)))\/(H a=some (.dK [])/\al=[]):=by
 obtain⟨o,vs,h1,h2,h3⟩:=h;rcases h3 with⟨kvs,e,e1,e2⟩|⟨kvs,e,e1,e2⟩
 ·subst e;cases kvs with
  |nil=>
   refine .inr ⟨h1,?_⟩
   simpa using e1
  |cons p r=>
   cases al with
   |nil=>cases e1
   |cons q r'=>
    have e1:D.tup (q.1.map aJ)::encK r'=aJ p.1::r.map (λp=>aJ p.1):=e1;injection e1 with e1 _;rcases p with⟨k,v⟩
    cases k<;>cases e1
 ·subst e;refine .inl ⟨kvs,h1,?_,by rw[<-e2];exact h2⟩;exact(jo (ks:=kvs.map (·.1)) (by rw[Kw];exact e1)).symm
theorem qO{kvs:List (List Key×V)}{ks:List aE}(e:kvs.map (·.1)=ks)(k:aE):(dJ kvs k).isSome=ks.any λq=>decide (q=k):=by
 subst e
 induction kvs with
 |nil=>rfl
 |cons p r ih=>
  rw[Jg,Jk,<-ih];by_cases e:p.1=k
  ·rw[gu e];simp[e]
  ·rw[gF e];simp[e]
noncomputable def mx(ks ds:List D)(k:D):aU:=(dS ks ds).bind λal=>(cy k).bind λk=>some (.bl (al.any λp=>decide (p.1=k)))
noncomputable def Ij(i:Nat)(f:FX):FX:=λρ=>(f ρ).bind λk=>match ρ[i]? with
 |some (some (.own (.dct ks ds)))=>rO (mx ks ds k)
 |_=>un
theorem sL{ks ds:List D}{k d:D}(h:mx ks ds k=some d):∃al q,ks=encK al/\ds=al.map (·.2)/\k=.tup (q.map aJ)/\d=.bl (al.any λp=>decide (p.1=q)):=by
 unfold mx at h;cases e1:dS ks ds with
 |none=>rw[e1]at h;cases h
 |some al=>
  rw[e1]at h;cases e2:cy k with
  |none=>rw[e2]at h;cases h
  |some q=>
   rw[e2]at h;cases h;obtain⟨h1,h2⟩:=dG e1;exact⟨al,q,h1,h2,dE e2,rfl⟩
noncomputable def cn(al:bu)(k:aE)(v:D):bu:=if(al.any λp=>decide (p.1=k))=true then al.map (λp=>if p.1=k then(p.1,v)else p)else al++[(k,v)]
noncomputable def gR(ks ds:List D)(k v:D):Option (bu):=(dS ks ds).bind λal=>(cy k).bind λk=>if small al.length then some (cn al k v)else none
noncomputable def eh(i:Nat)(fk fv:FX):bG:=λk ρ=>match ρ[i]? with
 |some (some (.own (.dct ks ds)))=>kS ((fv ρ).bind λv=>(fk ρ).bind λq=>rO (gR ks ds q v)) k ρ λal=>k.nx (ρ.set i (some (.own (az al))))
 |_=>un
theorem mE{ks ds:List D}{k v:D}{al':bu}(h:gR ks ds k v=some al'):∃al q,ks=encK al/\ds=al.map (·.2)/\k=.tup (q.map aJ)/\small al.length=true/\al'=cn al q v:=by
 unfold gR at h;cases e1:dS ks ds with
 |none=>rw[e1]at h;cases h
 |some al=>
  rw[e1]at h;cases e2:cy k with
  |none=>rw[e2]at h;cases h
  |some q=>
   rw[e2]at h;obtain⟨h3,h4⟩:=bg (show(if small al.length then some (cn al q v)else none)=some al' from h);obtain⟨h1,h2⟩:=dG e1;exact⟨al,q,h1,h2,dE e2,h3,h4.symm⟩
theorem lQ{kvs:List (List Key×V)}{al:bu}(e:kvs.map (·.1)=al.map (·.1))(k:aE)(w:V)(d:D):(putK kvs k w).map (·.1)=(cn al k d).map (·.1):=by
 have e2:(kvs.any λp=>decide (p.1=k))=(al.any λp=>decide (p.1=k)):=by
  have:=congrArg (λl=>l.any λq=>decide (q=k)) e
  simpa [Kx,Function.comp_def]using this
 unfold putK cn;rw[e2];split
 ·have e3:∀(l:List (List Key×V)),(l.map λkv=>if kv.1=k then(kv.1,w)else kv).map (·.1)=l.map (·.1):=λl=>by
   rw[Kw];refine JF λp _=>?_;show(if p.1=k then(p.1,w)else p).1=p.1;split<;>rfl
  have e4:∀(l:bu),(l.map λkv=>if kv.1=k then(kv.1,d)else kv).map (·.1)=l.map (·.1):=λl=>by
   rw[Kw];refine JF λp _=>?_;show(if p.1=k then(p.1,d)else p).1=p.1;split<;>rfl
  rw[e3,e4,e]
 ·rw[JG,JG,e];rfl
theorem p0{K:KZ}{H:Hp}{k:aE}{w:V}{d:D}(hw:bv K H d w):∀{kvs:List (List Key×V)}{al:bu},kvs.map (·.1)=al.map (·.1)->ax K H (al.map (·.2)) (kvs.map (·.2))->
  ax K H ((al.map λp=>if p.1=k then(p.1,d)else p).map (·.2)) ((kvs.map λp=>if p.1=k then(p.1,w)else p).map (·.2))
 |[],[],_,h=>h
 |p::r,q::r',e,h=>by
  rw[Jg,Jg]at e;injection e with e1 e2;rw[Jg,Jg,aK]at h;obtain⟨v,ws,h0,h1,h2⟩:=h;injection h0 with h0 h0';subst h0 h0';have ih:=p0 (k:=k) hw e2 h2;rw[Jg,Jg,Jg,Jg,aK];refine⟨_,_,rfl,?_,ih⟩;rw[e1];split
  ·exact hw
  ·exact h1
 |[],_::_,e,_=>by cases e
 |_::_,[],e,_=>by cases e
theorem oC{K:KZ}{H:Hp}{k:aE}{w:V}{d:D}(hw:bv K H d w){kvs:List (List Key×V)}{al:bu}(e:kvs.map (·.1)=al.map (·.1))(h:ax K H (al.map (·.2)) (kvs.map (·.2))):
  ax K H ((cn al k d).map (·.2)) ((putK kvs k w).map (·.2)):=by
 have e2:(kvs.any λp=>decide (p.1=k))=(al.any λp=>decide (p.1=k)):=by
  have:=congrArg (λl=>l.any λq=>decide (q=k)) e
  simpa [Kx,Function.comp_def]using this
 unfold putK cn;rw[e2];split
 ·exact p0 hw e h
 ·rw[JG,JG];exact h.append (aK.mpr ⟨w,[],rfl,hw,bB.mpr rfl⟩)
theorem kz{kvs:List (List Key×V)}{al:bu}(e:kvs.map (·.1)=al.map (·.1)):encK al=kvs.map λp=>D.tup (p.1.map aJ):=by
 have:=congrArg (List.map λk:aE=>D.tup (k.map aJ)) e
 rw[Kw,Kw]at this;exact this.symm
theorem mC{H:Hp}{a:Ma}{o1 o2:HO}:upd (upd H a o1) a o2=upd H a o2:=by
 funext b;by_cases e:b=a
 ·subst e;rw[ah,ah]
 ·rw[ai e,ai e,ai e]
noncomputable def DT(td ty tv:TE):TS:=λD σ H=>tv σ H λv H1=>td σ H1 λx H2=>ty σ H2 λy H3=>∃a k b kvs,x=.ref a/\y=.ref b/\H3 b=some (.tup (k.map kV))/\(H3 a=some (.dT kvs)\/(H3 a=some (.dK [])/\kvs=[]))/\kvs.length<Mk/\D.nx σ (upd H3 a (.dT (putK kvs k v)))
section
variable{X:Cx}{o idx value:Mb}{pos pos':Pos}{td ty tv:TE}
theorem qA(hu:X.A.units+1<MF)(ho:PE X o td)(hi:PE X idx ty)(hv:PE X value tv)(hs:swapsWith value (some (.Subscript o idx pos')) pos.line X.env=pure false):PS X (.Assign [.Subscript o idx pos'] value pos) (DT td ty tv):=by
 intro pins s σ H D I h;refine wpAny_Assign_Subscript (cg (hv pins s σ H _ I h) λr s1 zq=>zq.elim λv zq=>zq.elim λH1 zq=>zq.elim λI1 zq=>zq.elim λrv q1=>cg (ho pins s1 σ H1 _ I1 q1) λu s2 zq=>zq.elim λx zq=>zq.elim λH2 zq=>zq.elim λI2 zq=>zq.elim λrx q2=>cg (hi pins s2 σ H2 _ I2 q2) λiv s3 h3=>?_) hs;obtain⟨y,H3,I3,ry,a,k,b,kvs,ex,ey,hb,ha,hl,q3⟩:=h3;subst ex ey;obtain rfl:u=Value.ref a:=rx;rcases ha with ha|⟨ha,rfl⟩
 ·exact n6 hu I3 (Fq.t ha hb hl) ry rv λs4 I4=>⟨σ,_,I4,q3⟩
 ·have ne:b≠a:=λz=>by rw[z,ha]at hb;cases hb
  refine n6 hu (pE I3 ha) (Fq.t ah (by rw[ai ne];exact hb) hl) ry rv λs4 I4=>⟨σ,_,I4,?_⟩
  rw[mC];exact q3
end
end TG
namespace TG
open PySem PySem.Spec L2
variable[aq]
end TG
namespace TG
open PySem PySem.Spec PySem.W PySem.Calls PyProof.Rows Builtin Builtin.ObjectAttr Builtin.Getset_descriptor
variable[aq]
section
variable{prog:Mh}{w:Mg}{A:Mo}{E:L8->Mf->Prop}{s:Mf}{K:Frag}{x D:Ma}{ox:Obj}{R:MG->Mf->Prop}
structure wB(K:Frag)(D:Ma):Prop where
 ga:findIn K (.ref D) "__getattribute__"=some (some (.builtin "BaseException.__getattribute__"))
 gn:findIn K (.ref D) "__getattr__"=some none
 fc:findIn K (.ref D) "__class__"=some (some (.builtin "object.__class__"))
 sg:specialIn K (.builtin "object.__class__") "__get__"=some (some (.builtin "getset_descriptor.__get__"))
 tk:takesIn K (.builtin "object.__class__")=some true
 ob:mroIn K D (.type "object")=some true
 be:mroIn K D (.type "BaseException")=some true
end
end TG
namespace TG
open PySem PySem.Spec PySem.W PySem.Calls PyProof.Rows Builtin Builtin.ObjectAttr Builtin.Getset_descriptor
section
variable{prog:Mh}{w:Mg}{A:Mo}{E:L8->Mf->Prop}{s:Mf}{K:Frag}{x D:Ma}{ox:Obj}{od:Option Obj}{name:Str}{v:L8}
theorem xP{expr:Bool}{Q:L8->Mf->Prop}(Z:wB K D)(X:K.In s.heap)(I:InstAt s.heap x ox D od)(hf:findObj K D od name=some (.value v))(hh:handedIn v=true)(h:Q v {s with toks:=s.toks+1}):
  Mr `g A (getAttr (.ref x) name expr) Q E s:=by
 obtain⟨hp,g,d,t,os⟩:=s;have k0:=I.type (M:=model prog w);have k1:=looks_findIn (M:=model prog w) X Z.ga;have k2:=looks_findIn (M:=model prog w) X Z.gn;have k3:=looks_mroIn (M:=model prog w) X Z.be;have k4:=looks_find (M:=model prog w) X I hf;unfold getAttr getAttrBy;refine My (wpAny_mkText (MQ (My (k0.at (My (k1.at ?_))))));show Mr _ _ (getAttrByItsOwn _ _ _ _ _ _) _ _ _;unfold getAttrByItsOwn;refine My (k2.at ?_);refine My (Nr (MQ ?_));unfold callGetattribute;rw[if_neg (by cases expr<;>decide)];unfold boundAndCalled;rw[PySem.F.attrBase_ValueError.ga.bind (.ref x)];refine My (Mx ?_);have ha:=F.args_bexc_ga (.ref x) (Value.str name t);have e1:builtinKind "BaseException.__getattribute__"=some .slot:=by decide +kernel
 have e2:splitId "BaseException.__getattribute__"=some ("BaseException","__getattribute__"):=by decide +kernel
 refine M9 (codeAny_call_builtin PySem.F.attrBase_ValueError.ga.plain F.entry_bexc_ga ?_);have k5:Looks `g hp (isInstance (.ref x) (.type "BaseException")) true:=k0.andThen k3;refine@check_slot `g _ _ ⟨hp,g,d,t+1,os⟩ "BaseException.__getattribute__" "BaseException" "__getattribute__" (.ref x) [.str name t] [] _ e1 e2 k5 ha ?_;show Mr _ _ (Builtin.«object.__getattribute__» ⟨[.ref x,.str name t],[]⟩) _ _ _;unfold Builtin.«object.__getattribute__»;refine My (Mx (My (Mx (My (k0.at (My (k4.at ?_)))))));refine Mx ?_;show Mr _ _ (handedOut v) _ _ _;rw[handedOut_of hh];exact Mx h
end
noncomputable def sP:List L8->Bool
 |.ref _::r=>sP r
 |l=>l==[.type "ValueError",.type "Exception",.type "BaseException",.type "object"]
noncomputable def rC(K:Frag)(D:Ma):Bool:=(clsIn K D).any λcd=>sP cd.mro
theorem og(self:L8):∀{l:List L8},sP l=true->refuseLoop self "__setattr__" l=pure ()/\l.contains (.type "object")=true/\l.isEmpty=false
 |[],h=>by cases h
 |c::r,h=>by
  cases c with
  |ref C=>
   obtain⟨h1,h2,_⟩:=og self (l:=r) h;exact⟨by rw[refuseLoop_ref];exact h1,by rw[Ky,h2,Kz],rfl⟩
  |_=>
   have e:=eq_of_beq (show(_==_)=true from h);rw[e];exact⟨PySem.F.store_ValueError.passes self,by decide +kernel,rfl⟩
section
variable{prog:Mh}{w:Mg}{A:Mo}{E:L8->Mf->Prop}{s:Mf}{K:Frag}{x D:Ma}{ox:Obj}{od:Option Obj}{name:Str}{v:L8}{tk:Tok}{R:MG->Mf->Prop}
theorem sV(X:K.In s.heap)(I:InstAt s.heap x ox D od)(hp:rC K D=true)(ha:findIn K (.ref D) name=some none)
  (h:Mr `g A.in1 (storeInOwnDict (.ref x) (.ref D) (.str name tk) name v false) (λfin s'=>match fin with|.done f=>R (.ok f) s'|.again c'=>c'.quiet=true/\MJ `g A c' R s') (λe s'=>R (.error e) s') s):
  MJ `g A (.call (.builtin "object.__setattr__") ⟨[.ref x,.str name tk,v],[]⟩) R s:=by
 have SF:=PySem.F.store_object;obtain⟨cd,hc,ho⟩:=any_some hp;obtain⟨v1,v2,v3⟩:=og (.ref x) ho;have k1:Looks `g s.heap (isInstance (.ref x) (.type "object")) true:=I.type.andThen (looks_mroIn X (by unfold mroIn;rw[hc,Option.bind_some,if_neg (by rw[v3];decide),v2]));have k2:Looks `g s.heap (mroOf (.ref D)) cd.mro:=(looks_clsIn X hc).andThen .now;refine codeAny_call_builtin SF.slot.plain SF.entry (@check_slot `g _ _ s "object.__setattr__" "object" "__setattr__" (.ref x) [.str name tk,v] [] _ SF.kind SF.split k1 (SF.args (.ref x) (.str name tk) v) ?_);rw[osa_eq,refuse_eq];refine My (My (I.type.here (My (k2.here ?_))));rw[v1];refine Mx (My (I.type.here (My ((looks_findIn X ha).here (My (Mx ?_))))));exact h
end
section
variable{prog:Mh}{w:Mg}{A:Mo}{E:L8->Mf->Prop}{s:Mf}{K:Frag}{x D dx:Ma}{ox:Obj}{od:Option Obj}{name:Str}{v:L8}{tk:Tok}{R:MG->Mf->Prop}{mA:Str->Option L8}{ns:List Str}{Q:Unit->Mf->Prop}
structure BE(K:Frag)(D:Ma):Prop where
 sa:findIn K (.ref D) "__setattr__"=some (some (.builtin "object.__setattr__"))
 ov:rC K D=true
 hd:hasDictIn K D=true
theorem wM(Z:BE K D)(X:K.In s.heap)(hx:s.heap.get? x=some ox)(hc:ox.cls=.ref D)(hn:notCls ox=true)(hd:ox.dict=some dx)(hns:s.heap.Ns1 dx mA)(ha:findIn K (.ref D) name=some none)(hw:PySem.Within mA ns)(hsz:ns.length<=Mk)
  (h:∀h',h'.Ns1 dx (λy=>if y=name then some v else mA y)->Lx dx s.heap h'->Q () {s with heap:=h',toks:=s.toks+2}):Mr `g A (setAttr (.ref x) name v) Q E s:=by
 obtain⟨oD0,ho0,hl0⟩:=L2.uR hns;have I:InstAt s.heap x ox D (some oD0):=⟨hx,hc,hn,by rw[hd];exact ho0⟩
 refine set_plain X I Z.sa (sV (s:={s with toks:=s.toks+1}) X I Z.ov ha ?_);obtain⟨cd,c1,c2⟩:=any_some Z.hd;obtain⟨oc,odi,oda,osl⟩:=ox;dsimp only at hc hd;subst hc hd;refine My (Mx (My (My (wpAny_loadPart hx (My (Looks.here (s:={s with toks:=s.toks+1}) (looks_clsIn X c1) ?_))))));rw[c2];refine Mx (a:=some dx) (My (Mx (My ?_)));refine wpAny_nsSet1 (s:={s with toks:=s.toks+1}) hns λh' n2 s2=>?_;obtain⟨o3,es3,ep3,q1,q2,q3⟩:=n2.count (PySem.Within.cons name v hw);refine My (wpAny_lookBehind q1 (by rw[q2];exact pastItsLine_dict (Iy q3 (by rw[Jl];omega))) ?_);exact Mx (h _ n2 s2)
theorem xL{vs:Array L8}(Z:BE K D)(X:K.In s.heap)(hx:s.heap.get? x=some ox)(hc:ox.cls=.ref D)(hdat:ox.data=.fields vs)(hd:ox.dict=none)(ha:findIn K (.ref D) name=some none)
  (h:∀h',h'.Ns1 s.heap.objs.size (λy=>if y=name then some v else none)->Lx s.heap.objs.size ((s.heap.push {cls:=.type "dict",data:=.dict #[]}).update x λo=>{o with dict:=some s.heap.objs.size}) h'->Q () {s with heap:=h',toks:=s.toks+2}):Mr `g A (setAttr (.ref x) name v) Q E s:=by
 obtain⟨oc,odi,oda,osl⟩:=ox;dsimp only at hc hd hdat;subst hc hd hdat;have I:InstAt s.heap x ⟨.ref D,none,.fields vs,osl⟩ D none:=⟨hx,rfl,rfl,trivial⟩
 refine set_plain X I Z.sa (sV (s:={s with toks:=s.toks+1}) X I Z.ov ha ?_);obtain⟨cd,c1,c2⟩:=any_some Z.hd;refine My (Mx (My (My (wpAny_loadPart hx (My (Looks.here (s:={s with toks:=s.toks+1}) (looks_clsIn X c1) ?_))))));rw[c2];have hx1:(s.heap.push {cls:=.type "dict",data:=.dict #[]}).get? x=some ⟨.ref D,none,.fields vs,osl⟩:=Ly _ hx;have ne:x≠s.heap.objs.size:=Iw (Lv hx);rw[if_neg (by decide)];dsimp only;rw[if_neg (by simp[typeHasDict])];refine My (wpAny_alloc' (My (wpAny_update' hx1 (Mx ?_))));have g1:((s.heap.push {cls:=.type "dict",data:=.dict #[]}).update x λo=>{o with dict:=some s.heap.objs.size}).get? s.heap.objs.size=some {cls:=.type "dict",data:=.dict #[]}:=(LD _ _ _ _ ne.symm).trans (LI rfl rfl);have g3:((s.heap.push {cls:=.type "dict",data:=.dict #[]}).update x λo=>{o with dict:=some s.heap.objs.size}).Ns s.heap.objs.size (λ_=>none):=⟨_,#[],_,g1,rfl,λe he=>absurd he (by simp),λ_=>rfl⟩
 show Mr _ _ (storeInDict s.heap.objs.size (.str name s.toks) name v) _ _ _;unfold storeInDict newKeyGuard;refine My (Mx (My (wpAny_nsSet1 (Heap.Ns1.of_empty g3) λh' n2 s2=>?_)));obtain⟨o3,es3,ep3,q1,q2,q3⟩:=n2.count (PySem.Within.cons name v PySem.Within.nil);refine My (wpAny_lookBehind q1 (by rw[q2];exact pastItsLine_dict (Iy q3 (by rw[Jl,Jm,MD];omega))) ?_);exact Mx (h h' n2 s2)
end
end TG
namespace TG
open PySem PySem.Spec L2
variable[aq]
open PyProof.Rows (AllBare OwnCls)
section
variable{X:Cx}{pins:aG}{σ:St}{H:Hp}{s:Mf}{h':Mj}
theorem tL(I:`h)(hx:X.ex=[])(hst:X.stack=X.env::X.outer)(hf:X.env.frame=some X.env.locals)(hfn:∀x,X.fn x=true)(us:s.heap.UpToSlots h')(k:∀b o,s.heap.get? b=some o->fQ X H b->b∉frs X.stack->h'.get? b=some o):
  Inv X [] σ H {s with heap:=h'}:=by
 have un:=xO I hx hst hf us k;have cellF:∀x c,X.env.cells.lookup x=some c->c∉frs X.stack:=λx c e z=>by
  obtain⟨v,o,q,d⟩:=I.cell x c e;rw[hst]at z;have z':c∈X.env.locals::frs X.outer:=by
   have:frs (X.env::X.outer)=X.env.locals::frs X.outer:=(by show List.filterMap _ (_::_)=_;rw[IA,hf];rfl);rw[this]at z;exact z
  rcases List.mem_cons.mp z' with z|z
  ·obtain⟨m,⟨o2,es,ep,e2,d2,_⟩,_⟩:=I.loc;rw[<-z,q]at e2;cases e2;rw[d]at d2;cases d2
  ·obtain⟨_,o2,e2,_⟩:=I.ok.funs.mem z;exact Iu _ (Ir (Lv e2) (I.ok.cab x c (hfn x) e))
 have cellK:∀x c v,X.env.cells.lookup x=some c->s.heap.IsCell c v->h'.IsCell c v:=λx c v e zq=>zq.elim λo zq=>zq.elim λq d=>⟨o,k c o q (.inr (.inr (.inr ⟨x,e⟩))) (cellF x c e),d⟩
 obtain⟨m,hn,hl⟩:=I.loc;refine⟨I.ok,I.os,I.bare,by rw[hx];exact un,⟨m,us.ns hn,λi x v e1 e2 e3=>?_⟩,λx c e=>?_,I.free,I.freeC,λp hp=>?_,tW I k,I.len⟩
 ·obtain⟨u,r,q⟩:=hl i x v e1 e2 e3;refine⟨u,r,?_⟩;rcases q with q|⟨q1,c,q2,q3⟩
  ·exact .inl q
  ·exact .inr ⟨q1,c,q2,cellK x c _ q2 q3⟩
 ·obtain⟨v,q⟩:=I.cell x c e;exact⟨v,cellK x c v e q⟩
 ·rw[IM]at hp;obtain⟨e,n,ne,nf,d⟩:=I.pin p (IE _ hp);have nfs:p.1∉frs X.stack:=λz=>by
   have:frs X.stack=X.env.locals::frs X.outer:=(by rw[hst];show List.filterMap _ (_::_)=_;rw[IA,hf];rfl);rw[this]at z;rcases List.mem_cons.mp z with z|z
   ·exact ne z
   ·exact nf z
  exact⟨k _ _ e (.inr (.inr (.inl ⟨p.2,hp⟩))) nfs,n,ne,nf,d⟩
theorem uS{e C:Ma}{oe:Obj}(I:`h)(hx:X.ex=[])(hn:H e=none)(he:s.heap.get? e=some oe)(hc:oe.cls=.ref C)(hno:Lc oe=true)(h0:X.s₀.heap.get? e=none)(hL:e≠X.env.locals)(hcl:∀x,X.env.cells.lookup x≠some e)(hp:∀p∈X.pn++pins,p.1≠e):
  Inv X pins σ (upd H e (.ext (ra C e oe.dict))) s:=by
 have ne:∀b u,H b=some u->b≠e:=λb u q z=>by rw[z,hn]at q;cases q
 have U:=I.base;refine⟨I.ok,I.os,I.bare,⟨U.keep,U.slot,λb o q n nx=>?_,U.there,λb xs q=>?_,λb o u q=>?_,λb ps q=>?_⟩,I.loc,I.cell,?_,λx c q=>?_,λp q=>?_,λa o q=>?_,I.len⟩
 ·rw[ai λz=>by rw[z,h0]at q;cases q];exact U.free b o q n nx
 ·have:=U.tups b xs q;rw[ai (ne _ _ this)];exact this
 ·have:=U.frzs b o u q;rw[ai (ne _ _ this)];exact this
 ·obtain⟨more,z⟩:=U.tbls b ps q;exact⟨more,by rw[ai (ne _ _ z)];exact z⟩
 ·rw[ai hL.symm];exact I.free
 ·rw[ai λz=>hcl x (by rw[<-z];exact q)];exact I.freeC x c q
 ·obtain⟨a1,a2,a3⟩:=I.pin p q;exact⟨a1,by rw[ai (hp p q)];exact a2,a3⟩
 ·by_cases z:a=e
  ·subst z;rw[ah]at q;cases q;exact⟨⟨oe,he,hc,rfl,hno⟩,⟨oe,he⟩,λ_ _ h1 h2 ⟨o,q1,q2⟩ _ k=>⟨o,k _ o (.inl rfl) q1,q2⟩⟩
  ·rw[ai z]at q;exact(I.hok a o q).stay (λb u _ q=>q) (λb q=>by rw[ai (ne _ _ q)];exact q) λb xs q=>by rw[ai (ne _ _ q)];exact q
end
abbrev HK:aF:=[.type "ValueError",.type "Exception",.type "BaseException",.type "object"]
theorem ji{base B h h':Mj}(k:∀b o,h.get? b=some o->h'.get? b=some o):∀{l:List Env},(∀b∈frs l,B.get? b=none)->h.FunFrames base l->h'.FunFrames B l
 |[],_,_=>trivial
 |env::l,hb,⟨h1,⟨L,o,h2,_,h3,h4⟩,h5⟩=>by
  have mem:L∈frs (env::l):=by show L∈List.filterMap _ (_::_);rw[IA,h2];exact IB
  refine⟨h1,⟨L,o,h2,hb L mem,k _ _ h3,h4⟩,ji k (λb z=>hb b ?_) h5⟩;show b∈List.filterMap _ (_::_);rw[IA,h2];exact IC _ z
end TG
namespace TG
open PySem PySem.Spec L2
variable[aq]
noncomputable abbrev qD(X:Cx)(E:aD)(pn:aG):Cx:={X with xe:=E,pn:=pn}
noncomputable abbrev lP(X:Cx)(A:Mo)(pn:aG):Cx:={X with A:=A,xe:=λ_ _=>False,calm:=false,pn:=pn}
section
variable{X:Cx}{pins:aG}{σ:St}{H:Hp}{s:Mf}{E:aD}{A:Mo}
theorem AO(I:L2.Inv X pins σ H s)(E:aD):L2.Inv (qD X E (X.pn++pins)) [] σ H s:=
 ⟨⟨I.ok.mod,I.ok.kind,I.ok.glob,I.ok.blt,I.ok.above,I.ok.inj,I.ok.has,I.ok.cab,I.ok.hd,I.ok.frames,I.ok.stk,I.ok.exf,I.ok.bs,I.ok.bsz,I.ok.noex,I.ok.exfs,I.ok.funs,I.ok.frf⟩,
  I.os,I.bare,I.base,I.loc,I.cell,I.free,I.freeC,λp hp=>I.pin p (by simpa using hp),I.hok,I.len⟩
theorem gO{E':aD}{A':Mo}{c':Bool}(ok:X.Ok)(I:L2.Inv {X with A:=A',xe:=E',calm:=c',pn:=X.pn++pins} [] σ H s):L2.Inv X pins σ H s:=
 ⟨ok,I.os,I.bare,I.base,I.loc,I.cell,I.free,I.freeC,λp hp=>I.pin p (by simpa using hp),I.hok,I.len⟩
theorem qN{pn:aG}{ps:aG}(I:L2.Inv (qD X E pn) ps σ H s)(hA:A.frames=X.A.frames):L2.Inv (lP X A pn) ps σ H s:=
 ⟨⟨I.ok.mod,I.ok.kind,I.ok.glob,I.ok.blt,I.ok.above,I.ok.inj,I.ok.has,I.ok.cab,(fun z=>nomatch z),by rw [show (lP X A pn).A=A from rfl,hA]; exact I.ok.frames,I.ok.stk,I.ok.exf,I.ok.bs,I.ok.bsz,I.ok.noex,I.ok.exfs,I.ok.funs,I.ok.frf⟩,
  I.os,I.bare,I.base,I.loc,I.cell,I.free,I.freeC,I.pin,I.hok,I.len⟩
theorem wF{i:Nat}{n:Str}{v:Option L8}{m:bU}{h9:Mj}{t:Nat}(I:L2.Inv X pins σ H s)(hN:X.N.Nodup)(hi:X.N[i]?=some n)(hn:s.heap.Ns X.env.locals m)
  (hl:∀(i:Nat)(x:Str)(v:V),X.N[i]?=some x->σ[i]?=some (some v)->Dk X.env.scope x->∃u,RelV v u/\Look X.env s.heap m x u)
  (ns:h9.Ns X.env.locals (λx=>if x=n then v else m x)) (sb:Lx X.env.locals s.heap h9):L2.Inv X pins (σ.set i none) H {s with heap:=h9,toks:=t}:=by
 have old:∀b o,X.s₀.heap.get? b=some o->b≠X.env.locals:=λb o q z=>by
  have h1:=Lv q;rw[z]at h1;exact Iu _ (Ir h1 I.ok.above)
 have go:∀b o,b≠X.env.locals->s.heap.get? b=some o->h9.get? b=some o:=λb o ne q=>(sb.2 b ne).trans q;have cne:∀c w,s.heap.IsCell c w->c≠X.env.locals:=λc w ⟨o,q,d⟩ z=>by
  obtain⟨o2,es,ep,e2,d2,_⟩:=hn;rw[z,e2]at q;cases q;rw[d2]at d;cases d
 have U:=I.base;refine⟨I.ok,I.os,I.bare,⟨λb o q n nb nx=>go b o (old b o q) (U.keep b o q n nb nx),λb o q n nb nx=>?_,U.free,λb o q nx=>?_,U.tups,U.frzs,U.tbls⟩,⟨_,ns,λj y v' e1 e2 e3=>?_⟩,λx c q=>?_,I.free,I.freeC,λp hp=>?_,λa o q=>?_,by rw[JN];exact I.len⟩
 ·obtain⟨sl,z⟩:=U.slot b o q n nb nx;exact⟨sl,go b _ (old b o q) z⟩
 ·obtain⟨o1,z⟩:=U.there b o q nx;exact⟨o1,go b _ (old b o q) z⟩
 ·by_cases hj:j=i
  ·subst hj;have hlt:j<σ.length:=(by rw[I.len];exact(List.getElem?_eq_some_iff.mp hi).1);rw[IG hlt]at e2;cases e2
  ·rw[IH (Ne.symm hj)]at e2;have hy:y≠n:=λz=>by
    subst z;obtain⟨l1,g1⟩:=List.getElem?_eq_some_iff.mp e1;obtain⟨l2,g2⟩:=List.getElem?_eq_some_iff.mp hi;exact hj (List.getElem_inj hN |>.mp (g1.trans g2.symm))
   obtain⟨u,r,q⟩:=hl j y v' e1 e2 e3;refine⟨u,r,?_⟩;rcases q with⟨q1,q2⟩|⟨q1,c,q2,q3⟩
   ·exact .inl ⟨q1,by show(if y=n then v else m y)=some u;rw[if_neg hy];exact q2⟩
   ·obtain⟨o,z1,z2⟩:=id q3;exact .inr ⟨q1,c,q2,o,go c o (cne c _ q3) z1,z2⟩
 ·obtain⟨w,z⟩:=I.cell x c q;obtain⟨o,z1,z2⟩:=id z;exact⟨w,o,go c o (cne c _ z) z1,z2⟩
 ·obtain⟨e,n',ne,r⟩:=I.pin p hp;exact⟨go _ _ ne e,n',ne,r⟩
 ·refine(I.hok a o q).stay (λb u hb z=>go b u (λw=>?_) z) (λ_ q=>q) λ_ _ q=>q;have hz:=I.free;rw[<-w]at hz;rcases hb with e|e
  ·rw[e,q]at hz;cases hz
  ·rw[e]at hz;cases hz
theorem vI{e C:Ma}{dx:Option Ma}(fl:ue X H s e C dx):∃oe vs,s.heap.get? e=some oe/\oe.cls=.ref C/\oe.data=.fields vs:=by
 obtain⟨_,B,a0,_,_,_,b4,_⟩:=fl;rcases b4 with⟨oe,vs,T,oT,ts,h1,h2,h3,_⟩|⟨oe,vs,h1,h2,h3,_⟩
 ·exact⟨oe,vs,h1,h2.1,h3⟩
 ·exact⟨oe,vs,h1,h2,h3⟩
theorem wX{M:Mq}{e C:Ma}{dx:Option Ma}{Q:Unit->cF}(hfr:A.frames=some X.stack)(hst:X.stack=X.env::X.outer)(hf:X.env.frame=some X.env.locals)(fl:ue X H s e C dx)
  (hQ:∀B a0 h',Heap.HeldW B X.stack e (.ref C) a0 X.env.locals h'->s.heap.UpToSlots h'->(∀b o,s.heap.get? b=some o->fQ X H b->b∉frs X.stack->B.get? b=some o)->DS s.heap h'->Q () {s with heap:=h'}):
  Mr M A (noteFrame (.ref e) X.env) Q E s:=by
 obtain⟨_,B,a0,b1,b2,b3,b4,b5⟩:=fl;rw[hst]at hfr b3;refine DP.go (sY _ _) (P:=λh'=>Heap.HeldW B X.stack e (.ref C) a0 X.env.locals h'/\s.heap.UpToSlots h') ?_ λh' z ds=>hQ B a0 h' z.1 z.2 b5 ds;rcases b4 with b4|⟨oe,vs,c1,c2,c3,c4,c5⟩
 ·exact wpAny_looks_onW hfr hf ⟨b1,b2,b3,b4⟩ λh' hd us=>⟨h',rfl,by rw[hst];exact hd,us⟩
 ·unfold noteFrame;simp only[hf];refine My (MP c1 c3 c4 ?_);rw[if_neg (by decide)];refine wpAny_entryW hfr b3 hf c1 b1 b2 c3 (Array.getElem?_eq_some_iff.mp c4).1 c5 λh' hN=>?_;obtain⟨k1,k2,k3,k4⟩:=hN;exact⟨h',rfl,⟨k1,b2,by rw[hst];exact k2,c2 ▸ k3⟩,k4⟩
end
theorem bx.unset{K:KZ}{Hb:Hp}{Ob O:au}{H:Hp}{ρ:ak}{σ:St}(T:bx K Hb Ob O H ρ σ)(i:Nat):bx K Hb Ob O H (ρ.set i none) (σ.set i none):=by
 have key:∀(j:Nat)(x:S),(ρ.set i none)[j]?=some (some x)->j≠i/\ρ[j]?=some (some x):=λj x e=>by
  rcases av e with⟨_,q⟩|⟨ne,q⟩
  ·cases q
  ·exact⟨ne,q⟩
 refine⟨⟨λj d e=>?_,λj d e=>?_,λj l xs ys a e1 e2 e3 e4=>?_,T.env.all⟩,T.base,λj xs a e1 e2=>?_,λj dn e=>?_⟩
 ·obtain⟨ne,q⟩:=key j _ e;obtain⟨v,q1,q2⟩:=T.env.val j d q;exact⟨v,by rw[IH ne.symm];exact q1,q2⟩
 ·obtain⟨ne,q⟩:=key j _ e;obtain⟨a,q1,q2⟩:=T.env.own j d q;exact⟨a,by rw[IH ne.symm];exact q1,q2⟩
 ·obtain⟨n1,q1⟩:=key j _ e1;obtain⟨n2,q2⟩:=key l _ e2;rw[IH n1.symm]at e3;rw[IH n2.symm]at e4;exact T.env.one j l xs ys a q1 q2 e3 e4
 ·obtain⟨ne,q⟩:=key j _ e1;rw[IH ne.symm]at e2;exact T.mine j xs a q e2
 ·obtain⟨ne,q⟩:=key j _ e;refine(T.nst j dn q).to (IH ne.symm) (λ_ _ z=>z) (λb q1 q2 q3 q4 _=>⟨rfl,q1,q2,λl d1 w=>?_⟩) λl d1 w=>⟨d1,(key l _ w).2⟩
  obtain⟨nl,z⟩:=key l _ w;rw[IH nl.symm];exact q4 l d1 z
noncomputable def qU(K:KZ)(mg:bU)(g:Str)(cs:ay):Prop:=∃G,mg g=some (.ref G)/\∀c∈cs,∀C,clsAt K c C->Lh K (.ref C) (.ref G)=some true
noncomputable def EH(i:Nat)(k:Ks):Ks:=⟨λρ=>k.nx (ρ.set i none),λρ=>k.bk (ρ.set i none),λρ=>k.ct (ρ.set i none),λ_ _=>un⟩
noncomputable def xW(cs:ay)(i:Nat)(F Fh:bG):bG:=λk ρ=>F {k with ex:=λx ρ1=>if cs.contains x.c=true then Fh (EH i k) (setV i (.exc x.c x.fs x.vs) ρ1)else un} ρ
section
variable{X:Cx}{pos:Pos}
theorem GZ{body suite:cq}{b₀:Md}{g n:Str}{gp hpos:Pos}{F Fh:bG}{cs:ay}{i:Nat}(hx:X.ex=[])(hst:X.stack=X.env::X.outer)(hf:X.env.frame=some X.env.locals)(hfn:∀x,X.fn x=true)
  (hT:qU X.K X.mg g cs) (hg:Gl X g) (hN:X.N.Nodup) (hi:X.N[i]?=some n) (hl:X.env.scope.names.lookup n=some .local)
  (hb:∀E pn,Mv `i X.A X.env E->Gf (qD X E pn) body F) (hs:∀A pn,A.depth=X.A.depth->A.units=X.A.units->Gf (lP X A pn) (b₀::suite) Fh) (hdb:(g==("__debug__":Str))=false:=by decide):
  FS X (.Try body [.ExceptHandler (some (.Name g gp)) (some n) (b₀::suite) hpos] [] [] pos) (xW cs i F Fh):=λHb Ob pins s σ H E I zq=>zq.elim λO zq=>zq.elim λρ zq=>zq.elim λk zq=>zq.elim λr zq=>zq.elim λS zq=>zq.elim λhF hk=>by
 obtain⟨G,hG,hcs⟩:=hT;refine wpAny_Try_except ?_;have land:∀O1 ρ1 σ1 H1 x,bx X.K Hb Ob O1 H1 ρ1 σ1->(if cs.contains x.c=true then Fh (EH i k) (setV i (.exc x.c x.fs x.vs) ρ1)else un)=r->
   B8 (qD X (λe s₁=>Mr `i X.A (noteFrame e X.env) (λ_ s₂=>Mr `i X.A (setFlight e none) (λ_ s₃=>Mr `i X.A (handleBy e X.env [.ExceptHandler (some (.Name g gp)) (some n) (b₀::suite) hpos]) (SP X pins E) X.xe s₃) X.xe s₂) X.xe s₁) (X.pn++pins)) σ1 O1 H1 x:=by
  rintro O1 ρ1 σ1 H1 x S1 ex pins' s1 u H2 I1 sm ⟨e,C,dx,rfl,hd,fl⟩;have cond:cs.contains x.c=true:=by
   cases z:cs.contains x.c with
   |true=>rfl
   |false=>rw[z]at ex;exact absurd ex.symm hk.ne
  rw[if_pos cond]at ex;obtain⟨oe1,vs1,he1,hc1,hd1⟩:=vI fl;have nfr:e∉frs X.stack:=λz=>by
   obtain⟨_,o,q,nf⟩:=I1.stack.mem z;rw[he1]at q;cases q;exact nf _ hd1
  refine wX (X:=qD X _ (X.pn++pins)) I1.ok.frames hst hf fl λB a0 h4 held us4 kb ds4=>?_;have nk:¬fQ (qD X _ (X.pn++pins)) H2 e:=λz=>by
   have:=kb e oe1 he1 z nfr
   rw[held.2.1]at this;cases this
  refine DP.go (kq _ _) (P:=λh'=>LA B X.stack e (.ref C) a0 h'/\h4.UpToSlots h') (wpAny_landsW held λh' x y=>⟨h',rfl,x,y⟩) λh5 z5 ds5=>?_;obtain⟨fl5,us5⟩:=z5;have I5:=tL I1 hx hst hf hfn (us4.trans us5) λb o q kb' nf=>fl5.1 b o (kb b o q kb' nf);obtain⟨oe5,he5,hc5⟩:=fl5.there;have I5h:=qN (A:=X.A.mark (some (.ref e))) I5 rfl;refine wpAny_handleBy_cons (codeAny_handlers_test (oS (X:=lP X (X.A.mark (some (.ref e))) (X.pn++pins)) I5h hg hG ?_ hdb)) (by intro z;cases z);refine(PySem.W.exm_one I5.kIn (show PySem.W.Looks _ h5 (typeOf (.ref e)) (.ref C)from hc5 ▸ (PySem.W.Looks.ld he5).andThen .now) (hcs x.c (by simpa using cond) C hd.1)).at ?_;refine codeAny_handlers_suite_as ?_;refine DP.go (kq _ _) (P:=λh'=>LA B X.stack e (.ref C) a0 h'/\h5.UpToSlots h') (PyProof.Rows.lands_againW fl5 λh' x y=>⟨h',rfl,x,y⟩) λh6 z6 ds6=>?_;obtain⟨fl6,us6⟩:=z6;have I6:=tL I1 hx hst hf hfn ((us4.trans us5).trans us6) λb o q kb' nf=>fl6.1 b o (kb b o q kb' nf);obtain⟨oe6,ws6,he6,hc6,hd6,_⟩:=fl6.first;have hdx:oe6.dict=dx:=(((ds4.trans ds5).trans ds6).dict he1 he6).trans (fl.1 _ he1);have hn:H2 e=none:=by
   cases q:H2 e with
   |none=>rfl
   |some ob=>exact absurd (.inr (.inl (by rw[q];intro z;cases z))) nk
  have I6a:=uS (C:=C) I6 hx hn he6 hc6 (by unfold Lc;rw[hd6]) (by
    cases q:X.s₀.heap.get? e with
    |none=>rfl
    |some o=>exact absurd (.inl ⟨⟨o,q⟩,by rw[show(qD X _ (X.pn++pins)).ex=X.ex from rfl,hx];simp⟩) nk) (λz=>by
    apply nfr;rw[hst,z];show X.env.locals∈List.filterMap _ (_::_);rw[IA,hf];exact IB)
   (λy q=>nk (.inr (.inr (.inr ⟨y,q⟩)))) (λp hp q=>by
    rw[IM]at hp;exact nk (.inr (.inr (.inl ⟨p.2,by rw[<-q];exact hp⟩))))
  have I6h:=qN (A:=X.A.mark (some (.ref e))) I6a rfl;have same26:aI H2 (upd H2 e (.ext (ra C e oe6.dict))):=λb o q=>by rw[ai λz=>by rw[z,hn]at q;cases q];exact q
  have eO:e∉O1:=(S1.env.all.same sm).not hn;refine mG (X:=lP X (X.A.mark (some (.ref e))) (X.pn++pins)) I6h hN hi (.inl hl) (show RelV (.ref e) (.ref e)from rfl) (λs7 I7=>?_) (.inl (hfn n));have S7:=(S1.same (sm.trans same26)).setV (i:=i) (d:=.exc x.c x.fs x.vs) (v:=.ref e) (by rw[I1.len];exact(List.getElem?_eq_some_iff.mp hi).1)
   (by
    obtain⟨c1,ws,w1,w2,w3⟩:=hd;have sh:aI (hid H2 O1) (hid (upd H2 e (.ext (ra C e oe6.dict))) O1):=aM same26;exact Gh.mpr ⟨e,ws,rfl,w1.mono sh,w2,C,oe6.dict,c1,by rw[cQ eO];exact ah,w3.imp id λzq=>zq.elim λd zq=>zq.elim λq1 q2=>⟨d,hdx.trans q1,sh _ _ q2⟩⟩)
  refine Mt (hs (X.A.mark (some (.ref e))) (X.pn++pins) rfl rfl Hb Ob [] s7 _ _ {nx:=λσ' H'=>E.nx (σ'.set i none) H',rt:=E.rt,bk:=λσ' H'=>E.bk (σ'.set i none) H',ct:=λσ' H'=>E.ct (σ'.set i none) H'} I7
   ⟨O1,_,EH i k,r,S7,ex,hk.ne,λO' ρ' σ' H' S' q=>hk.nx O' _ _ H' (S'.unset i) q,λO' ρ' σ' H' S' q=>hk.bk O' _ _ H' (S'.unset i) q,λO' ρ' σ' H' S' q=>hk.ct O' _ _ H' (S'.unset i) q,hk.rt,λO' ρ' σ' H' y S' q=>absurd q.symm hk.ne⟩) (λf s8 h8=>?_) λ_ _ z=>z.elim
  have fin:∀σ' H',L2.Inv (lP X (X.A.mark (some (.ref e))) (X.pn++pins)) [] σ' H' s8->∀Q:cF,(∀s9,L2.Inv X pins (σ'.set i none) H' s9->Q s9)->
    Mr `i X.A (do bindName X.env n .none;unbindBehindTheSuite X.env n hpos) (λ_ s₃=>Q s₃) X.xe s8:=λσ' H' I8 Q q=>by
   obtain⟨m,hm,hlk⟩:=I8.loc;exact wpAny_nameGoes_keeps hl hm (by rw[I8.ok.kind];rfl) λh9 v ns9 sb9=>q _ (gO I.ok (wF I8 hN hi hm hlk ns9 sb9))
  cases f with
  |next=>obtain⟨σ',H',I8,q⟩:=h8;exact fin σ' H' I8 _ λs9 I9=>⟨_,H',I9,q⟩
  |brk=>obtain⟨σ',H',I8,q⟩:=h8;exact fin σ' H' I8 _ λs9 I9=>⟨_,H',I9,q⟩
  |cont=>obtain⟨σ',H',I8,q⟩:=h8;exact fin σ' H' I8 _ λs9 I9=>⟨_,H',I9,q⟩
  |ret u=>obtain⟨v,σ',H',I8,rv,q⟩:=h8;exact fin σ' H' I8 _ λs9 I9=>⟨v,_,H',I9,rv,q⟩
 refine Mt (hb _ (X.pn++pins) PassesOwn.looking Hb Ob [] s σ H E (AO I _) ⟨O,ρ,_,r,S,hF,hk.ne,hk.nx,hk.bk,hk.ct,hk.rt,land⟩) (λf s1 h1=>?_) λ_ _ z=>z;cases f with
 |next=>obtain⟨σ',H',I1,q⟩:=h1;exact uo pins s1 σ' H' E (gO I.ok I1) q
 |brk=>obtain⟨σ',H',I1,q⟩:=h1;exact⟨σ',H',gO I.ok I1,q⟩
 |cont=>obtain⟨σ',H',I1,q⟩:=h1;exact⟨σ',H',gO I.ok I1,q⟩
 |ret u=>obtain⟨v,σ',H',I1,rv,q⟩:=h1;exact⟨v,σ',H',gO I.ok I1,rv,q⟩
end
end TG
namespace TG
open PySem PySem.Spec L2
variable[aq]
theorem yV{K:KZ}{C:Ma}{v:L8}(h:Li K C v=some true):(PySem.W.clsIn K C).isSome=true:=by
 unfold Li at h;cases e:PySem.W.clsIn K C with
 |none=>rw[e]at h;cases h
 |some c=>rfl
theorem AB{K:KZ}{C G:Ma}(hb:Lj K (.ref G) (.type "BaseException")=some true)(hs:Lj K (.ref C) (.ref G)=some true)(ho:Li K G (.type "object")=some true)(ht:Ln K (.ref G)=some (.type "type")):Lh K (.ref C) (.ref G)=some true:=by
 unfold Lh;rw[if_pos (by rw[hb];rfl)];unfold PySem.W.kitCls;dsimp only;rw[if_pos (by rw[yV ho,ht];rfl)];exact hs
theorem xx{K:KZ}{mg:bU}{g:Str}{G:Ma}{cs:ay}(hm:mg g=some (.ref G))(h:∀c∈cs,∃C,clsAt K c C/\Lh K (.ref C) (.ref G)=some true):qU K mg g cs:=⟨G,hm,λc hc C hC=>by
 obtain⟨C',h1,h2⟩:=h c hc;cases n8 hC h1;exact h2⟩
end TG
namespace TG
open PySem PySem.Spec L2
variable[aq]
end TG
namespace TG
open PySem PySem.Spec L2
open PySem PySem.Spec PyProof.Rows PySem.W L2
variable[aq]
end TG
namespace TG
open PySem PySem.Spec PyProof.Rows PySem.W L2
variable[aq]
end TG
namespace TG
open PySem PySem.Spec PyProof.Rows PySem.W L2
variable[aq]
theorem js:Mm "sorted"=some (.builtin "sorted"):=by first|rfl|decide +kernel
end TG
namespace TG
open PySem PySem.Spec PyProof.Rows PySem.W L2
end TG
namespace TG
open PySem PySem.Spec PySem.Calls L2
open PySem.SeqAt (EqAt list_indexAt)
variable[aq]
section
variable{X:Cx}{p pos:Pos}{e:Mb}
end
end TG
namespace TG
open PySem PySem.Spec L2
variable[aq]
end TG
namespace TG
open PySem PySem.Spec PySem.Calls L2
open PySem.SeqAt (EqAt list_countAt)
variable[aq]
end TG
namespace TG
open PySem PySem.Spec L2
variable[aq]
end TG
namespace TG
open PySem PySem.Spec PySem.Calls L2
variable[aq]
theorem uJ:typeLookup (.type "list") "keys"=pure none:=by rw[typeLookup_type,builtinLookup_eq_fast];kernel_rfl
theorem Av{prog:Mh}{w:Mg}{A:Mo}{E:aD}{s:Mf}{a:Ma}{o:Obj}{xs:Array L8}{k:Nat}{u:Tok}{Q:aD}
  (hx:s.heap.get? a=some o) (hc:o.cls=.type "list") (hdat:o.data=.seq xs k) (hd:o.dict=none) (hA:A.handled=none)
  (h:∀h' tk e,Heap.NewExcOf s.heap h' e "AttributeError"->E (.ref e) {s with heap:=h',toks:=tk}):
  Mr `g A (getAttrBy (.ref a) (.str "keys" u) false) Q E s:=by
 obtain⟨c,dct,dat,sl⟩:=o;simp only at hc hdat hd;subst hc hdat hd;obtain⟨hp,g,d,tk,os⟩:=s;have hT:∀tk',(⟨hp,g,d,tk',os⟩:Mf).TypeIs (.ref a) "list":=λ_=>⟨_,hx,rfl⟩
 have f1:=sub_AttributeError;have f3:=F.slot_list_getattribute.lookup;have f4:=F.slot_list_getattribute.bind (.ref a);have f5:=am_list_getattr_none;unfold getAttrBy
 repeat (any_goals (first|assumption|exact hT _|((with_reducible show Mr _ _ (call (Value.builtin "list.__getattribute__") _ _) _ _ _);refine call_meets F.slot_list_getattribute (hT _) am_entry_list_getattribute (F.args_list_getattribute_2 _ _) (meets_getattribute_miss_list a xs k sl "keys" _ uJ (by decide +kernel) (by decide +kernel)) ⟨hx,hA,λh' tk' e hx'=>?_⟩)|wp_step))
 obtain⟨t',u',he⟩:=hx'.there;show Mr _ _ (getattributeRaised _ _ _ _ _ _ _) _ _ _;unfold getattributeRaised
 repeat (any_goals (first|assumption|wp_step))
 exact h _ _ _ hx'.of
theorem AU{prog:Mh}{w:Mg}{A:Mo}{E:aD}{s:Mf}{a:Ma}{o:Obj}{xs:Array L8}{k:Nat}{Q:Option L8->cF}
  (hx:s.heap.get? a=some o) (hc:o.cls=.type "list") (hdat:o.data=.seq xs k) (hd:o.dict=none) (hA:A.handled=none)
  (h:∀h' tk,(∀b o,s.heap.get? b=some o->h'.get? b=some o)->Q none {s with heap:=h',toks:=tk}):
  Mr `g A (getAttr? (.ref a) "keys") Q E s:=by
 obtain⟨hp,g,d,tk,os⟩:=s;have f1:=sub_AttributeError;unfold getAttr? getAttrBy?;refine My (wpAny_mkText ?_);refine My (Nr (Av (s:=⟨hp,g,d,tk+1,os⟩) hx hc hdat hd hA λh' tk' e ne=>?_));obtain⟨ob,vs,e1,e2,_⟩:=ne.there;refine My (wpAny_isInstance (s:=⟨h',g,d,tk',os⟩) ⟨ob,e1,e2⟩ f1 ?_);exact Mx (h h' tk' ne.keeps)
noncomputable abbrev Keeps(h0 h:Mj):Prop:=∀b o,h0.get? b=some o->h.get? b=some o
section
variable{prog:Mh}{w:Mg}{A:Mo}{E:aD}{K:Type}[DecidableEq K]{knd:HeapKind prog w K}{d:Ma}{h0:Mj}
noncomputable def DI(knd:HeapKind prog w K)(h0:Mj)(d:Ma)(h:Mj)(xs:List (K×Ma×L8)):Prop:=
 (∃o es ep,h.get? d=some o/\o.ExactDict/\o.data=.dict es ep/\es.toList=xs.map (entryOfKey knd)/\(xs.map (·.1)).Nodup)/\∀x∈xs,∀h,Keeps h0 h->knd.is h x.1 x.2.1
theorem DI.dict{h:Mj}{xs:List (K×Ma×L8)}(x:DI knd h0 d h xs)(k:Keeps h0 h):h.DictOfH knd d xs:=by
 obtain⟨⟨o,es,ep,h1,h2,h3,h4,h5⟩,h6⟩:=x;exact⟨o,es,ep,h1,h2,h3,h4,λy hy=>h6 y hy h k,h5⟩
theorem DI.stay{h h':Mj}{xs:List (K×Ma×L8)}(x:DI knd h0 d h xs)(k:∀o,h.get? d=some o->h'.get? d=some o):DI knd h0 d h' xs:=by
 obtain⟨⟨o,es,ep,h1,r⟩,h6⟩:=x;exact⟨⟨o,es,ep,k o h1,r⟩,h6⟩
theorem mem_storedH{xs:List (K×Ma×L8)}{k:K}{a:Ma}{v:L8}{x:K×Ma×L8}(h:x∈storedH xs k a v):(∃y∈xs,y.1=x.1/\y.2.1=x.2.1)\/(x.1=k/\x.2.1=a):=by
 unfold storedH at h;split at h
 ·obtain⟨y,hy,rfl⟩:=List.mem_map.mp h;refine .inl ⟨y,hy,?_⟩;unfold putAt;split<;>exact⟨rfl,rfl⟩
 ·rcases List.mem_append.mp h with z|z
  ·exact .inl ⟨x,z,rfl,rfl⟩
  ·rw[KA]at z;subst z;exact .inr ⟨rfl,rfl⟩
theorem DI.put{h h':Mj}{xs:List (K×Ma×L8)}{k:K}{a:Ma}{v:L8}(x:DI knd h0 d h xs)(hk:∀h,Keeps h0 h->knd.is h k a)(dd:h'.DictOfH knd d (storedH xs k a v)):DI knd h0 d h' (storedH xs k a v):=by
 obtain⟨o,es,ep,h1,h2,h3,h4,_,h5⟩:=dd;refine⟨⟨o,es,ep,h1,h2,h3,h4,h5⟩,λy hy g kg=>?_⟩;rcases mem_storedH hy with⟨z,hz,e1,e2⟩|⟨e1,e2⟩
 ·rw[<-e1,<-e2];exact x.2 z hz g kg
 ·rw[e1,e2];exact hk g kg
theorem qT(xs:List (K×Ma×L8))(k:K)(a:Ma)(v:L8):(storedH xs k a v).length<=xs.length+1:=by
 unfold storedH;split
 ·rw[IZ];omega
 ·simp
theorem qv:entryFor table "dict.update.loop"=some Builtin.«dict.update.loop»:=entryFor_of_tree (by kernel_rfl)
theorem jE:plainId "dict.update.loop"=true:=by decide +kernel
theorem vZ{R:MG->cF}{I:Ma}{fp wr:au}{P:Nat->L8->Prop}{St:Nat->Mj->Prop}{L:List (K×Ma×L8)}(W:Walks prog w A.in1 I fp wr L.length P St)(hwr:∀b∈wr,h0.get? b=none)(hdn:h0.get? d=none)(hdf:d∉fp)
  (hn:L.length<=Mk) (hu:knd.room A.in1) (hP:∀i v,P i v->∃x t,L[i]?=some x/\v=.ref t/\∀h,Keeps h0 h->h.IsTuple t #[.ref x.2.1,x.2.2]) (hK:∀x∈L,∀h,Keeps h0 h->knd.is h x.1 x.2.1) (res:L8):
  ∀(m i:Nat)(s:Mf)(xs:List (K×Ma×L8))(j:Int)(u:Tok),i+m=L.length->St i s.heap->Keeps h0 s.heap->DI knd h0 d s.heap xs->xs.length<=i->
  (∀h' tk,Keeps h0 h'->DI knd h0 d h' ((L.drop i).foldl (λxs x=>storedH xs x.1 x.2.1 x.2.2) xs)->R (.ok (.ret res)) {s with heap:=h',toks:=tk})->
  MJ `g A (.builtin "dict.update.loop" ⟨[.ref d,.ref I,.int j u,res],[]⟩) R s:=by
 have hdw:d∉wr:=λh=>hdf (W.sub _ h);intro m
 induction m with
 |zero=>
  intro i s xs j u hi st kp di hl hR;have hin:i=L.length:=by omega
  subst hin;refine codeAny_builtin qv ?_;rw[Around.under_plainId jE _];show Mr _ A.in1 (pyNext (.ref I) >>= _) _ _ s;refine My (W.done s _ _ st λh' tk hk=>?_);refine My (Mx (Mx ?_))
  have:=hR h' tk (λb o q=>hk b o (λz=>by have:=hwr b z;rw[q]at this;cases this) (kp b o q)) (by
   rw[JR,List.foldl_nil];exact di.stay λo q=>hk d o hdw q)
  exact this
 |succ m ih=>
  intro i s xs j u hi st kp di hl hR;refine codeAny_builtin qv ?_;rw[Around.under_plainId jE _];show Mr _ A.in1 (pyNext (.ref I) >>= _) _ _ s;refine My (W.item i s _ _ `o st λv h' tk hv st' hk=>?_);obtain⟨x,t,hx,rfl,ht⟩:=hP i v hv;have kp':Keeps h0 h':=λb o q=>hk b o (λz=>by have:=hwr b z;rw[q]at this;cases this) (kp b o q);obtain⟨o,ho,hc,n,hd⟩:=ht h' kp';have xm:x∈L:=IX hx;refine My (MQ (My (wpAny_tryCatch ?_)));unfold Builtin.Dict.pairItems;refine My (MT (T:="tuple") ⟨o,ho,hc⟩ ?_);rw[if_pos (by decide)];refine My (wpAny_seqItems ho hd (Mx ?_));show Mr _ _ (holding [.ref x.2.1,x.2.2] (dictSet d (.ref x.2.1) x.2.2)) _ _ _;have di':DI knd h0 d h' xs:=di.stay λo q=>hk d o hdw q;refine MQ (wpAny_dictSet_heap (s:={s with heap:=h',toks:=tk}) (hsz:=by omega) hu (hK x xm h' kp') (di'.dict kp') λh2 dd sb=>?_);have kp2:Keeps h0 h2:=λb o q=>(sb.2 b (λz=>by rw[z,hdn]at q;cases q)).trans (kp' b o q);refine Mx ⟨plainId_quiet jE _,?_⟩;refine ih (i+1) _ (storedH xs x.1 x.2.1 x.2.2) (j+1) 0 `o (W.frame _ _ _ st' λb hb o q=>(sb.2 b (λz=>hdf (by rw[<-z];exact hb))).trans q) kp2 (di'.put (hK x xm) dd) (by have:=qT xs x.1 x.2.1 x.2.2;omega) λh3 tk3 kp3 di3=>?_;refine hR h3 tk3 kp3 ?_;have e:L.drop i=x::L.drop (i+1):=by
   have hil:i<L.length:=(by omega);rw[JO hil];rw[Jz hil]at hx;rw[Option.some.inj hx]
  rw[e,Kj];exact di3
theorem gA{s:Mf}{Q:aD}{l:Ma}{o:Obj}{items:Array L8}{n:Nat}{L:List (K×Ma×L8)}(ho:s.heap.get? l=some o)(hc:o.cls=.type "list")(hd:o.data=.seq items n)(hdd:o.dict=none)(hh:A.handled=none)(hu:knd.room A.in1.in1)
  (hl:items.size=L.length) (hn:L.length<=Mk) (hP:∀(i:Nat) v,items[i]?=some v->∃x t,L[i]?=some x/\v=.ref t/\s.heap.IsTuple t #[.ref x.2.1,x.2.2]) (hK:∀x∈L,∀h,Keeps s.heap h->knd.is h x.1 x.2.1)
  (hQ:∀h' tk,Keeps s.heap h'->DI knd s.heap s.heap.objs.size h' (L.foldl (λxs x=>storedH xs x.1 x.2.1 x.2.2) [])->Q (.ref s.heap.objs.size) {s with heap:=h',toks:=tk}):
  Mr `g A (call (.type "dict") [.ref l]) Q E s:=by
 refine callType_codes (Q₁:=λobj s₁=>obj=.ref s.heap.objs.size/\s₁={s with heap:=s.heap.push {cls:=.type "dict",data:=.dict #[]}}) F.kt_called_dict (F.kt_typeCall_dict_1 _) F.entry_dict_init (kt_code_dict_new _ ⟨rfl,rfl⟩) ?_;rintro obj s₁ ⟨rfl,rfl⟩;have hnew:(s.heap.push {cls:=.type "dict",data:=.dict #[]}).DictOfH knd s.heap.objs.size []:=Heap.DictOfH.new s.heap;have hlt:=Lv ho;have hl1:(s.heap.push {cls:=.type "dict",data:=.dict #[]}).get? l=some o:=Ly _ ho;refine⟨hnew.typeIs,F.args_dict_init_2 _ _,?_⟩;unfold Builtin.«dict.__init__»;refine My ?_;unfold Builtin.Dict.selfAndRest;refine My (Nv hnew.typeIs ?_);show Mr _ _ (pure (s.heap.objs.size,[Value.ref l])) _ _ _;refine Mx ?_;show Mr _ _ (Builtin.Dict.updateFrom "dict.__init__" s.heap.objs.size (.ref l) [] .none) _ _ _;unfold Builtin.Dict.updateFrom;refine My (MT (T:="list") ⟨o,hl1,hc⟩ ?_);rw[if_pos (by decide)];refine My (AU hl1 hc hd hdd hh λh1 tk1 k1=>?_);rw[if_pos (show(none:Option L8).isNone=true from rfl)];refine My (M6 ?_);have hd1:h1.get? s.heap.objs.size=some {cls:=.type "dict",data:=.dict #[]}:=k1 _ _ (Lz _ rfl);have hl2:h1.IsList l items:=⟨o,k1 _ _ hl1,hc,n,hd⟩
 have dlt:=Lv hd1;refine My (wpAny_pyIter_list (s:={s with heap:=h1,toks:=tk1}) hl2 ?_);refine Mx ⟨plainId_quiet jE _,?_⟩;have W:=Walks.list (prog:=prog) (w:=w) (A:=A.in1.in1) hh h1.objs.size l (Iw (Jp hlt dlt)) items;rw[hl]at W;refine vZ (A:=A.in1) (knd:=knd) (h0:=s.heap) (d:=s.heap.objs.size) W (λb hb=>?_) (Lw (IJ _)) (λz=>?_) hn hu (λi v hv=>?_) hK .none L.length 0 _ [] 0 0 `o ?_ (λb o q=>?_) ⟨⟨_,#[],0,Ly _ hd1,⟨rfl,rfl,rfl⟩,rfl,rfl,Jr⟩,λx hx=>by simp at hx⟩ (IJ _) λh' tk kp di=>?_
 ·rw[KA]at hb;subst hb;exact Lw (Iz dlt)
 ·simp only[KC,List.not_mem_nil,or_false]at z;rcases z with z|z
  ·exact absurd z (Iw dlt)
  ·exact absurd z.symm (Iw hlt)
 ·obtain⟨x,t,e1,e2,e3⟩:=hP i v hv;obtain⟨ob,q1,q2⟩:=e3;exact⟨x,t,e1,e2,λh kh=>⟨ob,kh _ _ q1,q2⟩⟩
 ·exact⟨⟨_,Lz _ rfl,rfl,rfl⟩,let ⟨ob,q1,q2⟩:=hl2;⟨ob,Ly _ q1,q2⟩⟩
 ·exact Ly _ (k1 _ _ (Ly _ q))
 ·exact⟨rfl,hQ h' tk kp di⟩
end
noncomputable def qf:D->Option (List Key×D)
 |.tup [k,v]=>(cy k).map λq=>(q,v)
 |_=>none
noncomputable def fX:List D->Option (bu)
 |[]=>some []
 |d::r=>(qf d).bind λp=>(fX r).map (p::·)
noncomputable def nO(ps:bu):bu:=ps.foldl (λal p=>cn al p.1 p.2) []
noncomputable def gY:List D->aU
 |[.lst xs]=>(fX xs).bind λps=>if small ps.length then some (az (nO ps))else none
 |_=>none
theorem yp{d:D}{p:List Key×D}(h:qf d=some p):d=.tup [.tup (p.1.map aJ),p.2]:=by
 unfold qf at h;split at h
 ·rename_i k v;cases e:cy k with
  |none=>rw[e]at h;cases h
  |some q=>rw[e]at h;cases h;rw[dE e]
 ·cases h
theorem jX:∀{xs:List D}{ps:bu},fX xs=some ps->xs=ps.map λp=>.tup [.tup (p.1.map aJ),p.2]
 |[],_,h=>by cases h;rfl
 |d::r,ps,h=>by
  unfold fX at h;cases e1:qf d with
  |none=>rw[e1]at h;cases h
  |some p=>
   rw[e1]at h;cases e2:fX r with
   |none=>rw[e2]at h;cases h
   |some ps'=>rw[e2]at h;cases h;rw[yp e1,jX e2];rfl
section
variable{X:Cx}
theorem kB{pins:aG}{σ:St}{H:Hp}{s:Mf}{O:au}(I:L2.Inv X pins σ H s):∀{ps:bu}{ws:aB}{its:aF},ax X.K (hid H O) (ps.map λp=>.tup [.tup (p.1.map aJ),p.2]) ws->Vals ws its->
  ∃(L:List (List Key×Ma×L8))(ks:List (List Key×V)),its.length=L.length/\(∀(i:Nat)(v:L8),its[i]?=some v->∃(x:List Key×Ma×L8)(t:Ma),L[i]?=some x/\v=.ref t/\s.heap.IsTuple t #[.ref x.2.1,x.2.2])/\KT H ks L/\ks.map (·.1)=ps.map (·.1)/\ax X.K (hid H O) (ps.map (·.2)) (ks.map (·.2))
 |[],ws,its,h,r=>by
  rw[Jf,bB]at h;subst h;cases r;exact⟨[],[],rfl,(λi v e=>by simp at e),.nil,rfl,bB.mpr rfl⟩
 |p::ps,ws,its,h,r=>by
  rw[Jg,aK]at h;obtain⟨w,ws',rfl,h1,h2⟩:=h;cases r with
  |@cons _ u _ us ru rr=>
   obtain⟨L,ks,l1,l2,l3,l4,l5⟩:=kB I h2 rr;obtain⟨t,vs,rfl,t1,t2⟩:=bh.mp h1;obtain⟨v1,v2,rfl,d1,d2⟩:=t2.two;obtain⟨a,ks1,rfl,a1,a2⟩:=bh.mp d1;rw[b6 a2]at a1;obtain⟨its',r',⟨o,q1,q2⟩,_⟩:=I.tuple (aV (K:=X.K) (aj H O) t1);obtain⟨x1,x2,rfl,rx1,rx2⟩:=vals2 r';cases rx1;obtain rfl:u=Value.ref t:=ru;refine⟨(p.1,a,x2)::L,(p.1,v2)::ks,by rw[Jl,Jl,l1],λi v e=>?_,.cons ⟨rfl,(aj H O) _ _ a1,rx2⟩ l3,by rw[Jg,Jg,l4],aK.mpr ⟨v2,_,rfl,d2,l5⟩⟩;cases i with
   |zero=>
    have e:Value.ref t=v:=(by simpa using e);subst e;exact⟨_,t,rfl,rfl,o,q1,q2⟩
   |succ i=>exact l2 i v (by simpa using e)
theorem lZ{K:KZ}{H:Hp}{H0:Hp}:∀{ps:bu}{ks:List (List Key×V)}{L:List (List Key×Ma×L8)}{al:bu}{kvs:List (List Key×V)}{xs:List (List Key×Ma×L8)},KT H ks L->ks.map (·.1)=ps.map (·.1)->ax K H0 (ps.map (·.2)) (ks.map (·.2))->
  KT H kvs xs->kvs.map (·.1)=al.map (·.1)->ax K H0 (al.map (·.2)) (kvs.map (·.2))->
  KT H (ks.foldl (λm p=>putK m p.1 p.2) kvs) (L.foldl (λxs x=>storedH xs x.1 x.2.1 x.2.2) xs)/\(ks.foldl (λm p=>putK m p.1 p.2) kvs).map (·.1)=(ps.foldl (λal p=>cn al p.1 p.2) al).map (·.1)/\
   ax K H0 ((ps.foldl (λal p=>cn al p.1 p.2) al).map (·.2)) ((ks.foldl (λm p=>putK m p.1 p.2) kvs).map (·.2))/\(ks.foldl (λm p=>putK m p.1 p.2) kvs).length<=kvs.length+ks.length
 |[],[],_,al,kvs,xs,.nil,_,_,h1,h2,h3=>⟨h1,h2,h3,by simp⟩
 |p::ps,q::ks,_,al,kvs,xs,.cons (b:=x) hq hr,e,d,h1,h2,h3=>by
  rw[Jg,Jg]at e;injection e with e1 e2;rw[Jg,Jg,aK]at d;obtain⟨v,vs,d0,d1,d2⟩:=d;injection d0 with d0 d0';subst d0 d0';obtain⟨y1,y2,y3⟩:=hq;have z1:=KT.put h1 q.1 y2 y3;rw[y1]at z1;have z2:=lQ h2 q.1 q.2 p.2;have z3:=oC (k:=q.1) d1 h2 h3
  have:=lZ (kvs:=putK kvs q.1 q.2) (al:=cn al q.1 p.2) (xs:=storedH xs x.1 x.2.1 x.2.2) hr e2 d2 (by rw[y1];exact z1) z2 z3
  rw[Kj,Kj,Kj,<-e1];refine⟨this.1,this.2.1,this.2.2.1,Iy this.2.2.2 ?_⟩
  have:=gV kvs q.1 q.2
  rw[Jl];omega
 |[],_::_,_,_,_,_,_,e,_,_,_,_=>by cases e
 |_::_,[],_,_,_,_,_,e,_,_,_,_=>by cases e
theorem sy(hc:X.calm=true)(hu:X.A.units+64<MF):dz X (.type "dict") (zk X.K gY):=by
 rintro pins s σ H xs us Q I r ⟨O,ds,d,hO,hd,hg,q⟩;unfold gY at hg;split at hg
 ·rename_i ys;cases hp:fX ys with
  |none=>rw[hp]at hg;cases hg
  |some ps=>
   rw[hp]at hg;obtain⟨sm,rfl⟩:=bg (show(if small ps.length then some (az (nO ps))else none)=some d from hg);obtain⟨v,rfl,h1⟩:=hd.one;obtain⟨p,ws,rfl,g1,g2⟩:=bn.mp h1;obtain⟨u,rfl,ru⟩:=vals1 r;cases ru;obtain⟨its,rv,⟨o,n,ho,hcl,hd',hdd⟩,hz⟩:=I.list ((aj H O).seq g1);rw[jX hp]at g2;obtain⟨L,ks,l1,l2,l3,l4,l5⟩:=kB I g2 rv;have kl:ks.length=ps.length:=(by have:=congrArg List.length l4;simpa using this);have ll:ks.length=L.length:=Paired.length l3;have key:∀{ks:List (List Key×V)}{L:List (List Key×Ma×L8)},KT H ks L->∀x∈L,∀h,Keeps s.heap h->(tupleKind (aQ X.prog X.w)).is h x.1 x.2.1:=λ{ks L} kt=>by
    induction kt with
    |nil=>intro x hx;cases hx
    |cons hq _ ih=>
     intro x hx h kh;rcases List.mem_cons.mp hx with z|z
     ·subst z;obtain⟨e1,e2,_⟩:=hq;rw[e1]at e2;obtain⟨o,xs,n,k1,k2⟩:=eI I.hok e2;exact⟨o,xs,n,kh _ _ k1,k2⟩
     ·exact ih x z h kh
   obtain⟨f1,f2,f3,f4⟩:=lZ (K:=X.K) (H:=H) (H0:=hid H O) (al:=[]) (kvs:=[]) (xs:=[]) l3 l4 l5 .nil rfl (bB.mpr rfl);have hsz:ps.length<=100000:=of_decide_eq_true sm;have sl:Mk=16777216:=MD;refine gA (knd:=tupleKind (aQ X.prog X.w)) (L:=L) ho hcl hdd hd' (I.ok.hd hc) (M0 (by rw[in1_units];omega)) (by simpa using l1) `o (λi v e=>l2 i v (by simpa using e)) (key l3) λh' tk kp di=>?_;have hf:=I.hok.fresh (IJ s.heap.objs.size);obtain⟨⟨od,es,ep,k1,k2,k3,k4,k5⟩,_⟩:=di;have kt':KT (upd H s.heap.objs.size (.dT (ks.foldl (λm p=>putK m p.1 p.2) []))) (ks.foldl (λm p=>putK m p.1 p.2) []) (L.foldl (λxs x=>storedH xs x.1 x.2.1 x.2.2) []):=KT.keeps f1 λb ys eb=>by rw[ai (λz=>by rw[z,hf]at eb;cases eb)];exact eb
   refine⟨.ref s.heap.objs.size,_,I.laid (t':=tk) kp (IJ _) (show a7 X.prog X.w _ h' _ (.dT (ks.foldl (λm p=>putK m p.1 p.2) []))from⟨by simp only[Jm]at f4;omega,beq_eq_false_iff_ne.mpr (Ne.symm (Iw I.big)),_,kt',od,es,ep,k1,k2,k3,k4,k5⟩),rfl,?_⟩;refine q _ _ (aW hf _) ?_;have pO:=hO.not hf;refine Gm.mpr ⟨s.heap.objs.size,_,rfl,f3.mono (oH hf),.inr (.inl ⟨_,by rw[cQ pO];exact ah,kz f2,rfl⟩)⟩
 ·cases hg
end
noncomputable def t7(H:Hp)(a:Ma)(y:V)(r:Option V):Prop:=ph H a y r\/(H a=some (.dK [])/\r=none/\∃b k,y=.ref b/\H b=some (.tup (List.map kV k)))
noncomputable def eB(al:bu)(q:aE):aU:=(al.find? λp=>decide (p.1=q)).map (·.2)
noncomputable def qM(ks ds:List D)(k x:D):aU:=(dS ks ds).bind λal=>(cy k).bind λq=>some ((eB al q).getD x)
noncomputable def cU(fo fk fx:FX):FX:=λρ=>(fo ρ).bind λdd=>match dd with
 |.dct ks ds=>(fk ρ).bind λk=>(fx ρ).bind λx=>rO (qM ks ds k x)
 |_=>un
theorem mh{K:KZ}{H:Hp}{v:V}{al:bu}(h:bv K H (az al) v):
  ∃a,v=.ref a/\((∃kvs:List (List Key×V),H a=some (.dT kvs)/\kvs.map (·.1)=al.map (·.1)/\ax K H (al.map (·.2)) (kvs.map (·.2)))\/(H a=some (.dK [])/\al=[])):=by
 obtain⟨a,vs,e0,h2,h3⟩:=Gm.mp h;refine⟨a,e0,?_⟩;rcases h3 with⟨kvs,e,e1,e2⟩|⟨kvs,e,e1,e2⟩|⟨kvs,o,e,e1,e2⟩
 rotate_left 2
 ·cases al with
  |nil=>cases e1
  |cons _ _=>injection e1 with e1 _;cases e1
 ·cases kvs with
  |nil=>exact .inr ⟨e,by simpa using e1⟩
  |cons p r=>
   cases al with
   |nil=>cases e1
   |cons q r'=>
    have e1:D.tup (q.1.map aJ)::encK r'=aJ p.1::r.map (λp=>aJ p.1):=e1;injection e1 with e1 _;rcases p with⟨k,v⟩
    cases k<;>cases e1
 ·refine .inl ⟨kvs,e,?_,by rw[<-e2];exact h2⟩;exact(jo (ks:=kvs.map (·.1)) (by rw[Kw];exact e1)).symm
theorem jz{K:KZ}{H:Hp}(q:aE):∀{kvs:List (List Key×V)}{al:bu},kvs.map (·.1)=al.map (·.1)->ax K H (al.map (·.2)) (kvs.map (·.2))->(dJ kvs q=none/\eB al q=none)\/∃v d,dJ kvs q=some v/\eB al q=some d/\bv K H d v
 |[],[],_,_=>.inl ⟨rfl,rfl⟩
 |p::r,a::al,e,h=>by
  rw[Jg,Jg]at e;injection e with e1 e2;rw[Jg,Jg,aK]at h;obtain⟨v,ws,h0,h1,h2⟩:=h;injection h0 with h0 h0';subst h0 h0';by_cases z:p.1=q
  ·refine .inr ⟨p.2,a.2,gu z,?_,h1⟩;unfold eB;rw[KG (by rw[<-e1];simpa using z)];rfl
  ·have ih:=jz q e2 h2;have g:eB (a::al) q=eB al q:=by
    unfold eB;rw[KH (by rw[<-e1];simpa using z)]
   rw[gF z,g];exact ih
 |[],_::_,e,_=>by cases e
 |_::_,[],e,_=>by cases e
theorem rJ{ks ds:List D}{k x d:D}(h:qM ks ds k x=some d):∃al q,ks=encK al/\ds=al.map (·.2)/\k=.tup (q.map aJ)/\d=(eB al q).getD x:=by
 unfold qM at h;cases e1:dS ks ds with
 |none=>rw[e1]at h;cases h
 |some al=>
  rw[e1]at h;cases e2:cy k with
  |none=>rw[e2]at h;cases h
  |some q=>
   rw[e2]at h;cases h;obtain⟨h1,h2⟩:=dG e1;exact⟨al,q,h1,h2,dE e2,rfl⟩
section
variable{X:Cx}{o e f:Mb}{apos cpos:Pos}
theorem zN{pins:aG}{σ:St}{H:Hp}{s:Mf}{a:Ma}{y d:V}{u r:L8}{w:Option V}{A:Mo}{E:aD}{Q:aD}(hu:A.units+1<MF)(I:L2.Inv X pins σ H s)(g:t7 H a y w)(ry:RelV y u)(rd:RelV d r)(h:∀w' s',L2.Inv X pins σ H s'->RelV (w.getD d) w'->Q w' s'):
  Mr `i A (call (.builtin "dict.get") [.ref a,u,r]) Q E s:=by
 rcases g with g|⟨h1,rfl,b,k,rfl,hb⟩
 ·exact ym hu I g ry rd h
 ·have ne:b≠a:=λz=>by rw[z,h1]at hb;cases hb
  refine ym (o:=dJ [] k) hu (pE I h1) (ph.t ah (by rw[ai ne];exact hb)) ry rd λw' s' I4 rw'=>h w' s' ?_ rw';have I5:=A7 I4 ah;rw[jv h1]at I5;exact I5
noncomputable def Aq(td ty tx:TE):TE:=λσ H Q=>td σ H λx H1=>∃a,x=.ref a/\Hr H1 a/\ty σ H1 λy H2=>tx σ H2 λz H3=>∃o,t7 H3 a y o/\Q (o.getD z) H3
theorem v0{td ty tx:TE}(hu:X.A.units+1<MF)(ho:PE X o td)(he:PE X e ty)(hf:PE X f tx)(m:M2 X o "get" apos e f cpos):PE X (.Call (.Attribute o "get" apos) [e,f] [] cpos) (Aq td ty tx):=by
 intro pins s σ H Q I h;refine wpAny_Call_method m.base m.few m.line L5 LY L6 (cg (ho pins s σ H _ I h) λu s1 zq=>zq.elim λx zq=>zq.elim λH1 zq=>zq.elim λI1 zq=>zq.elim λrx zq=>zq.elim λa zq=>zq.elim λex zq=>zq.elim λd q1=>?_);subst ex;obtain rfl:u=Value.ref a:=rx;obtain⟨t1,t2,_⟩:=wZ I1 d;refine⟨t1,t2,?_⟩;rw[m.trees];refine Calls.callWith_builtin rfl (Calls.evalArgs_plain (Calls.spliced_cons (cg (he pins s1 σ H1 _ I1 q1) λiv s2 zq=>zq.elim λy zq=>zq.elim λH2 zq=>zq.elim λI2 zq=>zq.elim λry q2=>
  Calls.spliced_cons (cg (hf pins s2 σ H2 _ I2 q2) λfv s3 zq=>zq.elim λz zq=>zq.elim λH3 zq=>zq.elim λI3 zq=>zq.elim λrz zq=>zq.elim λov zq=>zq.elim λg q3=>Calls.spliced_nil ?_))))
 exact zN hu I3 g ry rz λw' s4 I4 rw'=>⟨_,H3,I4,rw',q3⟩
end
noncomputable def lY(x y:D):aU:=match y with
 |.dct ks ds=>mx ks ds x
 |_=>none
section
variable{X:Cx}
theorem xr(hu:X.A.units+64<MF):jj X (MB .In) (rD X.K lY):=by
 rintro pins s σ H x y u v Q I rx ry ⟨O,a,b,d,hO,ha,hb,hg,q⟩;cases b with
 |dct ks ds=>
  obtain⟨al,qk,f1,f2,f3,f4⟩:=sL (show mx ks ds a=some d from hg);subst f1 f2 f3 f4;obtain⟨p,ey,hh⟩:=mh hb;obtain⟨c,ws,ex,g1,g2⟩:=bh.mp ha;rw[b6 g2]at g1;have g1':=(aj H O) _ _ g1;subst ex ey;cases ry;rcases hh with⟨kvs,k1,k2,k3⟩|⟨k1,rfl⟩
  ·have hv:=qO k2 qk;rw[Kx]at hv;refine FU `o I (ph.t ((aj H O) _ _ k1) g1') rx λs3 I3=>⟨.bl (dJ kvs qk).isSome,H,I3,rfl,q _ H (aI.refl H) (gC.mpr ?_)⟩
   rw[hv];rfl
  ·have k1':=(aj H O) _ _ k1;have ne:c≠p:=λz=>by rw[z,k1']at g1';cases g1'
   refine FU (o:=dJ [] qk) `o (pE I k1') (ph.t ah (by rw[ai ne];exact g1')) rx λs3 I4=>⟨.bl false,H,?_,rfl,q _ H (aI.refl H) (gC.mpr rfl)⟩
   have I5:=A7 I4 ah;rw[jv k1']at I5;exact I5
 |_=>cases hg
end
end TG
namespace TG
open PySem PySem.Spec L2
variable[aq]
end TG
namespace TG
open PySem PySem.Spec L2
variable[aq]
end TG
namespace TG
open PySem PySem.Spec L2
variable[aq]
end TG
namespace TG
open PySem PySem.Spec PySem.Calls L2
theorem u6{o:Option V}{w:L8}(h:kZ o (some w)):∃v,o=some v/\RelV v w:=by
 cases o with
 |none=>exact h.elim
 |some v=>exact⟨v,rfl,h⟩
theorem vX{o:Option V}(h:kZ o none):o=none:=by
 cases o with
 |none=>rfl
 |some v=>exact h.elim
variable[aq]
end TG
namespace TG
open PySem PySem.Spec L2
variable[aq]
theorem bx.setN{K:KZ}{Hb:Hp}{Ob O O':au}{H H':Hp}{ρ:ak}{σ:St}(S:bx K Hb Ob O H ρ σ){i:Nat}{d d':D}(hi:ρ[i]?=some (some (.nest d)))(sub:∀b∈O,b∈O')(s:aI (hid H O) (hid H' O'))(hb:Base Hb Ob H' O')(all:bQ H' O')
  (keep:∀(j:Nat) xs b,ρ[j]?=some (some (.own xs))->σ[j]?=some (some (.ref b))->H b=H' b) (new:uA K Hb Ob O' H' (ρ.set i (some (.nest d'))) σ i d'):bx K Hb Ob O' H' (ρ.set i (some (.nest d'))) σ:=by
 have own:∀(j:Nat) xs,(ρ.set i (some (.nest d')))[j]?=some (some (.own xs))->ρ[j]?=some (some (.own xs)):=λj xs e=>by
  rcases av e with⟨_,q⟩|⟨_,q⟩
  ·cases q
  ·exact q
 refine⟨⟨λj d1 e=>?_,λj xs e=>?_,λj l xs ys a e1 e2 e3 e4=>S.env.one j l xs ys a (own j xs e1) (own l ys e2) e3 e4,all⟩,hb,λj xs a e1 e2=>S.mine j xs a (own j xs e1) e2,λj dn e=>?_⟩
 ·rcases av e with⟨_,q⟩|⟨_,q⟩
  ·cases q
  ·obtain⟨v,q1,q2⟩:=S.env.val j d1 q;exact⟨v,q1,q2.mono s⟩
 ·obtain⟨a,q1,q2,q3⟩:=S.env.own j xs (own j xs e);exact⟨a,q1,sub a q2,q3.mono (keep j xs a (own j xs e) q1) s⟩
 ·rcases av e with⟨hj,q⟩|⟨ne,q⟩
  ·cases q;rw[hj];exact new
  ·obtain⟨_,_,_,_,_,_,one⟩:=S.nst i d hi;exact absurd (one j dn q) ne
noncomputable def Br:ak->Bool
 |[]=>true
 |some (.nest _)::_=>false
 |_::ρ=>Br ρ
theorem ic:∀{ρ:ak},Br ρ=true->∀(j:Nat) d,ρ[j]?≠some (some (.nest d))
 |[],_,j,d,e=>by simp at e
 |none::ρ,h,j,d,e=>by
  cases j with
  |zero=>simp at e
  |succ j=>exact ic (ρ:=ρ) h j d (by simpa using e)
 |some (.val _)::ρ,h,j,d,e=>by
  cases j with
  |zero=>simp at e
  |succ j=>exact ic (ρ:=ρ) h j d (by simpa using e)
 |some (.own _)::ρ,h,j,d,e=>by
  cases j with
  |zero=>simp at e
  |succ j=>exact ic (ρ:=ρ) h j d (by simpa using e)
 |some (.nest _)::ρ,h,j,d,e=>by cases h
end TG
namespace TG
open PySem PySem.Spec L2
variable[aq]
theorem lK.imp{K:KZ}{H H':Hp}{O O':au}:∀{bs:au}{xs:List D},lK K H O bs xs->(∀c∈bs,∀x,bT K H O c x->bT K H' O' c x)->lK K H' O' bs xs
 |[],[],_,_=>trivial
 |b::bs,x::xs,h,f=>⟨f b IB x h.1,lK.imp h.2 λc hc=>f c (IC _ hc)⟩
 |[],_::_,h,_=>h.elim
 |_::_,[],h,_=>h.elim
end TG
namespace TG
open PySem PySem.Spec L2
variable[aq]
noncomputable abbrev bE(al:bu):D:=.dct (.non::encK al) (al.map (·.2))
theorem rY{X:Cx}{pins:aG}{σ:St}{H:Hp}{s:Mf}{a:Ma}{o:Obj}{kvs:List (List Key×V)}(I:`h)(e:H a=some (.frz o (.dT kvs))):s.heap.get? a=some o/\o.ExactDict/\(a==sysModules)=false/\∃es ep xs,o.data=.dict es ep/\KT H kvs xs/\es.toList=xs.map (entryOfKey (tupleKind (aQ X.prog X.w))):=by
 obtain⟨ho,z,hd,xs,rel,o',es,ep,h1,h2,h3,h4,h5⟩:=(show a7 X.prog X.w H s.heap a (.frz o (.dT kvs))from I.hok a _ e)
 rw[ho]at h1;cases h1;exact⟨ho,h2,hd,es,ep,xs,h3,rel,h4⟩
theorem mw{α β:Type}{R:α->β->Prop}:∀{xs:List α}{ys:List β},Mi R xs ys->∀{i:Nat}{x:α},xs[i]?=some x->∃y,ys[i]?=some y/\R x y:=λh=>by
 induction h with
 |nil=>intro i x e;simp at e
 |cons hq _ ih=>
  intro i x e;cases i with
  |zero=>rw[List.getElem?_cons_zero]at e;cases e;exact⟨_,rfl,hq⟩
  |succ i=>rw[KI]at e ⊢;exact ih e
theorem k6{K:KZ}{H:Hp}:∀q:aE,ax K H (q.map aJ) (q.map kV)
 |[]=>bB.mpr rfl
 |k::q=>aK.mpr ⟨kV k,_,rfl,by cases k with|inl i=>exact dm.mpr rfl|inr x=>exact cM.mpr rfl,k6 q⟩
theorem qL{K:KZ}{H:Hp}{v:V}{al:bu}(h:bv K H (bE al) v):∃a o kvs,v=.ref a/\H a=some (.frz o (.dT kvs))/\kvs.map (·.1)=al.map (·.1)/\ax K H (al.map (·.2)) (kvs.map (·.2)):=by
 obtain⟨a,vs,e0,h2,h3⟩:=Gm.mp h;rcases h3 with⟨kvs,e,e1,e2⟩|⟨kvs,e,e1,e2⟩|⟨kvs,o,e,e1,e2⟩
 ·cases kvs with
  |nil=>cases e1
  |cons p r=>
   injection e1 with e1 _;rcases p with⟨k,v⟩
   cases k<;>cases e1
 ·cases kvs with
  |nil=>cases e1
  |cons p r=>injection e1 with e1 _;cases e1
 ·injection e1 with _ e1;subst e2;exact⟨a,o,kvs,e0,e,(jo (ks:=kvs.map (·.1)) (by rw[Kw];exact e1)).symm,h2⟩
theorem BP{X:Cx}{pins:aG}{σ:St}{H:Hp}{s:Mf}{a:Ma}{kvs:List (List Key×V)}(I:`h)(h1:H a=some (.dT kvs)):∃o,Inv X pins σ (upd H a (.frz o (.dT kvs))) s:=by
 obtain⟨z,hd,xs,rel,o,es,ep,g1,g2⟩:=(show a7 X.prog X.w H s.heap a (.dT kvs)from I.hok a _ h1)
 refine⟨o,iJ (ob:=.frz o (.dT kvs)) (h':=s.heap) (t':=s.toks) I (by rw[h1];exact trivial) ⟨rfl,λ_ _=>rfl⟩ ⟨o,g1⟩ ⟨g1,z,hd,xs,KT.keeps rel λb ys eb=>?_,o,es,ep,g1,g2⟩⟩;rw[ai (y8 eb h1 (λz=>nomatch z))];exact eb
end TG
namespace TG
open PySem PySem.Spec L2
section
variable{prog:Mh}{w:Mg}{A:Mo}{E:aD}{s:Mf}{it d:Ma}{i ep:Nat}{o:Obj}{es:Array MZ}
theorem nK{Q:aD}(hd:(d==sysModules)=false)(ho:s.heap.get? d=some o)(hx:o.ExactDict)(hdat:o.data=.dict es ep)
  (hQ:Q (.ref s.heap.objs.size) {s with heap:=s.heap.push {cls:=.type "dict_keyiterator",data:=.fields #[.ref d,.int 0 0,.int es.size 0,.int ep 0]}}):Mr `g A (pyIter (.ref d)) Q E s:=by
 have hT:s.TypeIs (.ref d) "dict":=⟨o,ho,hx.1⟩
 refine wpAny_pyIter_slot hT F.slot_dict_iter (MS F.slot_dict_iter hT F.entry_dict_iter ?_ (F.args_dict_iter_1 _));unfold Builtin.«dict.__iter__»;refine My ?_;unfold Builtin.Dict.dictSlotNone;refine My (Nv hT ?_);show Mr _ _ (pure (Value.ref d)) _ _ s;refine Mx ?_;show Mr _ _ (Builtin.Dict.showsAll d >>= _) _ _ s;unfold Builtin.Dict.showsAll;rw[if_neg (by rw[hd];exact II)];refine My (Mx (My (Nw ho hdat (My (Nx ho hdat ?_)))));refine My (MU (Mx ⟨_,rfl,"dict_keyiterator",_,⟨_,Lz _ rfl,rfl⟩,F.slot_dict_keyiterator_next.lookup,?_⟩));simpa [rawInt]using hQ
theorem om{Q:Option L8->cF}(hit:s.heap.IsKeyIter it d i es.size ep)(hod:s.heap.get? d=some o)(hdd:o.data=.dict es ep)(hlt:i<es.size)
  (hQ:∀h',h'.IsKeyIter it d (i+1) es.size ep->Lx it s.heap h'->Q (some es[i].key) {s with heap:=h'}):Mr `g A (pyNext (.ref it)) Q E s:=by
 obtain⟨oi,ho,hc,hd⟩:=id hit;unfold pyNext;refine My (Nr (MR (name:=Str.ofString "__next__") hit.typeIs F.slot_dict_keyiterator_next (MS F.slot_dict_keyiterator_next hit.typeIs F.entry_dict_keyiterator_next ?_ (F.args_dict_keyiterator_next_1 _))));refine My (Mx (My (My ?_)));first|refine My (Ny hit.typeIs (Mx ?_))|refine My (Nz hit.typeIs (Mx ?_))
 refine My (wpAny_fieldsOf ho hd ?_);have hown:Builtin.Dict_items.ownsTuple "dict_keyiterator"=false:=by decide
 simp only[hown,Jt,if_false];show Mr _ _ (if(Value.ref d==Value.none)=true then _ else _) _ _ s;rw[if_neg (show¬((Value.ref d==Value.none)=true)from II)];refine My (Mx (My (Nw hod hdd ?_)));rw[if_neg (by simp)];refine My (Mx (My (Nx hod hdd ?_)));rw[if_neg (by simp)];refine Mx ?_;simp only[show¬((i:Int)<0)from by omega,if_false,Int.toNat_natCast,Array.getElem?_eq_getElem hlt];refine My ?_;first|refine My (Ny hit.typeIs (Mx ?_))|refine My (Nz hit.typeIs (Mx ?_))
 refine My (wpAny_isOneOf_keyiter hit.typeIs ?_);show Mr _ _ (setField (.ref it) 1 (rawInt ((i:Int)+1)) >>= _) _ _ s;refine My (wpAny_setField ho hd (by simp) ?_);have hit':(s.heap.update it (Obj.mapFields (·.setIfInBounds 1 (rawInt ((i:Int)+1))))).IsKeyIter it d (i+1) es.size ep:=⟨_,LJ _ ho (Obj.isFreed_of_fields (Obj.data_mapFields hd _)),(Obj.cls_mapFields ..).trans hc,by rw[Obj.data_mapFields hd];simp[rawInt]⟩
 refine My (MQ (My (wpAny_isOneOf_keyiter (s:={s with heap:=s.heap.update it (Obj.mapFields (·.setIfInBounds 1 (rawInt ((i:Int)+1))))}) hit'.typeIs ?_)));show Mr _ _ (pure es[i].key) _ _ _;exact Mx (Mx ⟨_,rfl,Mx (hQ _ hit' (Heap.SameBut.update ..))⟩)
theorem qj{Q:Option L8->cF}(hh:A.handled=none)(hit:s.heap.IsKeyIter it d i es.size ep)(hod:s.heap.get? d=some o)(hdd:o.data=.dict es ep)(hge:es.size<=i)(hQ:∀h',Heap.ExtBut it s.heap h'->Q none {s with heap:=h'}):Mr `g A (pyNext (.ref it)) Q E s:=by
 obtain⟨oi,ho,hc,hd⟩:=id hit;unfold pyNext;refine My (Nr (MR (name:=Str.ofString "__next__") hit.typeIs F.slot_dict_keyiterator_next (MS F.slot_dict_keyiterator_next hit.typeIs F.entry_dict_keyiterator_next ?_ (F.args_dict_keyiterator_next_1 _))));refine My (Mx (My (My ?_)));first|refine My (Ny hit.typeIs (Mx ?_))|refine My (Nz hit.typeIs (Mx ?_))
 refine My (wpAny_fieldsOf ho hd ?_);have hown:Builtin.Dict_items.ownsTuple "dict_keyiterator"=false:=by decide
 simp only[hown,Jt,if_false];show Mr _ _ (if(Value.ref d==Value.none)=true then _ else _) _ _ s;rw[if_neg (show¬((Value.ref d==Value.none)=true)from II)];refine My (Mx (My (Nw hod hdd ?_)));rw[if_neg (by simp)];refine My (Mx (My (Nx hod hdd ?_)));rw[if_neg (by simp)];refine Mx ?_;simp only[show¬((i:Int)<0)from by omega,if_false,Int.toNat_natCast,Array.getElem?_eq_none hge];refine My ?_;first|refine My (Ny hit.typeIs (Mx ?_))|refine My (Nz hit.typeIs (Mx ?_))
 show Mr _ _ (setField (.ref it) 0 .none >>= _) _ _ s;refine My (wpAny_setField ho hd (by simp) ?_);show Mr _ _ (newExc (.type "StopIteration") [] >>= _) _ _ _;refine My ?_;simp only[newExc,newTuple];refine My (MU ?_ (by size_fits));refine My (m:=firstArgMember _ _) (wpAny_of_eq (a:=Value.none) (by first|rfl|(simp only[firstArgMember];rfl)) ?_);refine MU ?_ (by size_fits);simp only[raiseNew];refine My (wpAny_handled ?_);rw[show A.in1.handled=none from hh];refine My (Mx (wpAny_throw ?_));refine My (wpAny_isInstance (T:="StopIteration") (b:=true) ⟨_,Lz _ rfl,rfl⟩ isSubtype_stop ?_);exact Mx (hQ _ (((Heap.SameBut.update ..).extBut.push _).push _))
noncomputable def Ce(d:Ma)(o:Obj)(es:Array MZ)(ep:Nat)(h:Mj):Prop:=h.get? d=some o/\o.ExactDict/\o.data=.dict es ep
theorem sr(hh:A.handled=none)(I:Ma)(hne:d≠I):Walks prog w A I [I,d] [I] es.size (λi v=>∃e,es[i]?=some e/\v=e.key) (λi h=>h.IsKeyIter I d i es.size ep/\Ce d o es ep h)where
 sub:=λb hb=>by simp at hb;simp[hb]
 frame:=λ_ _ _ st hk=>⟨st.1.at λo e=>hk I (by simp) o e,hk d (by simp) _ st.2.1,st.2.2⟩
 item:=λi s Q E hi st hQ=>om st.1 st.2.1 st.2.2.2 hi λh' hit' hs'=>hQ _ h' s.toks ⟨es[i],by simp[hi],rfl⟩ ⟨hit',(hs'.2 d hne).trans st.2.1,st.2.2⟩ λb o hb e=>hs'.extBut b o (λh=>hb (by simp[h])) e
 done:=λs Q E st hQ=>qj hh st.1 st.2.1 st.2.2.2 (IJ _) λh' he'=>hQ h' s.toks λb o hb e=>he' b o (λh=>hb (by simp[h])) e
 self:=λ_ _ _ _ st hQ=>wpAny_pyIter_keyiter st.1 hQ
theorem qG(lo:(d==sysModules)=false):PySem.W.KdlSrc prog w "dict" d d es.size (λi v=>∃e,es[i]?=some e/\v=e.key) (Ce d o es ep)where
 type:=λ_ hm=>⟨o,hm.1,hm.2.1.1⟩
 there:=λ_ hm=>⟨Lv hm.1,Lv hm.1⟩
 keep:=λ_ _ hm hk=>⟨hk d (.inl rfl) o hm.1,hm.2⟩
 notList:=by decide
 notTuple:=by decide
 hint:=λ_ _ _ _ hm hq=>PySem.W.kdl_hint_dict ⟨o,hm.1,hm.2.1.1⟩ hq
 iter:=λ_ _ hh hm=>⟨_,_,(λ_ _ hq=>nK lo hm.1 hm.2.1 hm.2.2 hq),sr (ep:=ep) (o:=o) hh _ (Iw (Lv hm.1)),⟨⟨_,Lz _ rfl,rfl,rfl⟩,Ly _ hm.1,hm.2⟩⟩
end
variable[aq]
noncomputable def oN:List D->List D->Option (bu)
 |.non::ks,ds=>dS ks ds
 |ks,ds=>dS ks ds
theorem jk{K:KZ}{H:Hp}{v:V}{ks ds:List D}{al:bu}(h:bv K H (.dct ks ds) v)(e:oN ks ds=some al):
  ∃a,v=.ref a/\((∃kvs:List (List Key×V),Rd H a (.dT kvs)/\kvs.map (·.1)=al.map (·.1)/\ax K H (al.map (·.2)) (kvs.map (·.2)))\/(H a=some (.dK [])/\al=[])):=by
 unfold oN at e;split at e
 ·obtain⟨f1,f2⟩:=dG e;subst f1 f2;obtain⟨a,o,kvs,q1,q2,q3,q4⟩:=qL h;exact⟨a,q1,.inl ⟨kvs,.inr ⟨o,q2⟩,q3,q4⟩⟩
 ·obtain⟨f1,f2⟩:=dG e;subst f1 f2;obtain⟨a,q1,q2⟩:=mh h;rcases q2 with⟨kvs,q2,q3⟩|q2
  ·exact⟨a,q1,.inl ⟨kvs,.inl q2,q3⟩⟩
  ·exact⟨a,q1,.inr q2⟩
section
variable{X:Cx}
noncomputable def gf:List D->aU
 |[.dct ks ds]=>(oN ks ds).bind λal=>some (.lst (encK al))
 |_=>none
theorem qS{pins:aG}{σ:St}{H:Hp}{s:Mf}(I:`h){a:Ma}{kvs:List (List Key×V)}(e:Rd H a (.dT kvs)):kvs.length<=Mk/\(a==sysModules)=false/\∃o es ep,Ce a o es ep s.heap/\es.size=kvs.length/\∀(i:Nat) u,es[i]?=some u->∃b q,u.key=.ref b/\kvs[i]?.map (·.1)=some q/\H b=some (.tup (q.map kV)):=by
 obtain⟨z,hd,xs,rel,o,es,ep,h1,h2,h3,h4,_⟩:=jf I.hok e;have hl:es.size=kvs.length:=by rw[<-Array.length_toList,h4,IZ];exact(Paired.length rel).symm
 refine⟨z,hd,o,es,ep,⟨h1,h2,h3⟩,hl,λi u eu=>?_⟩;have hi:i<kvs.length:=by
  have:=(Array.getElem?_eq_some_iff.mp eu).1
  omega
 obtain⟨x,ex,f1,f2,f3⟩:=mw rel (i:=i) (x:=kvs[i]) (by simp[hi])
 have:es.toList[i]?=some (entryOfKey (tupleKind (aQ X.prog X.w)) x):=by rw[h4,IV,ex];rfl
 rw[Array.getElem?_toList,eu]at this;cases this;exact⟨x.2.1,kvs[i].1,rfl,by simp[hi],f2⟩
theorem sf(hc:X.calm=true):dz X (.type "list") (zk X.K gf):=by
 rintro pins s σ H xs us Q I r ⟨O,ds,d,hO,hd,hg,q⟩;unfold gf at hg;split at hg
 ·rename_i ks vs0;cases hk:oN ks vs0 with
  |none=>rw[hk]at hg;cases hg
  |some al=>
   rw[hk]at hg;cases hg;obtain⟨v,ev,h1⟩:=hd.one;subst ev;obtain⟨a,ea,hh⟩:=jk h1 hk;subst ea;obtain⟨u,rfl,ru⟩:=vals1 r;cases ru;have fin:∀(H0:Hp)(kvs:List (List Key×V)),Inv X pins σ H0 s->Rd H0 a (.dT kvs)->kvs.map (·.1)=al.map (·.1)->(∀b ys,H0 b=some (.tup ys)->H b=some (.tup ys))->Mr `i X.A (call (.type "list") [.ref a]) (EP X pins σ Q) X.xe s:=λH0 kvs I0 hr hk2 ht=>by
    obtain⟨z,hs,o,es,ep,raw,hsz,hkey⟩:=qS I0 hr;have hl:al.length=kvs.length:=(by have:=congrArg List.length hk2;simpa using this.symm);refine PySem.W.kdl_call (qG hs) (I.ok.hd hc) raw (by rw[hsz];exact z) λh' tk acc' c' kp e2 it=>?_;have key:∃ws:aB,Vals ws acc'.toList/\ax X.K (hid H O) (encK al) ws:=by
     have hlen:acc'.toList.length=al.length:=(by rw[Array.length_toList,it.1,hsz,hl]);have each:∀(j:Nat)(u:L8),acc'.toList[j]?=some u->∃b q,u=.ref b/\al[j]?.map (·.1)=some q/\H b=some (.tup (q.map kV)):=λj u e=>by
      obtain⟨en,e3,e4⟩:=it.2 j u (by rw[<-Array.getElem?_toList];exact e);obtain⟨b,q,w1,w2,w3⟩:=hkey j en e3;refine⟨b,q,by rw[e4,w1],?_,ht _ _ w3⟩
      have:=congrArg (λl=>l[j]?) hk2
      simp only[IV]at this;rw[<-this];exact w2
     clear it e2;generalize acc'.toList=us at hlen each;clear hk hl hk2 h1 hh q
     induction us generalizing al with
     |nil=>
      cases al with
      |nil=>exact⟨[],.nil,bB.mpr rfl⟩
      |cons _ _=>cases hlen
     |cons u us ih=>
      cases al with
      |nil=>cases hlen
      |cons p al=>
       obtain⟨ws,w1,w2⟩:=ih (al:=al) (by simpa using hlen) λj u e=>by
        have:=each (j+1) u (by rw[KI];exact e)
        rw[KI]at this;exact this
       obtain⟨b,q,e1,e2,e3⟩:=each 0 u rfl;cases e2;have bO:b∉O:=λz=>by
        obtain⟨u',q1,q2⟩:=hO.2 b z;rw[e3]at q1;cases q1;exact q2
       exact⟨.ref b::ws,.cons (by rw[e1];rfl) w1,aK.mpr ⟨.ref b,ws,rfl,bh.mpr ⟨b,_,rfl,by rw[cQ bO];exact e3,k6 p.1⟩,w2⟩⟩
    obtain⟨ws,rv,dn⟩:=key;have wl:ws.length<=Mk:=(by rw[<-dn.length,IZ,hl];exact z);refine⟨.ref s.heap.objs.size,_,I.laid (t':=tk) kp (IJ _) (show a7 X.prog X.w _ h' _ (.lst ws)from⟨wl,acc'.toList,c',rv,by simpa using e2⟩),rfl,?_⟩;have hf:=I.hok.fresh (IJ s.heap.objs.size);exact q _ _ (aW hf _) (ck hO hf dn)
   rcases hh with⟨kvs,hr,e1,_⟩|⟨hr,e1⟩
   ·refine fin H kvs I ?_ e1 λ_ _ z=>z;rcases hr with hr|⟨o,hr⟩
    ·exact .inl ((aj H O) _ _ hr)
    ·exact .inr ⟨o,(aj H O) _ _ hr⟩
   ·have ha:=(aj H O) _ _ hr;refine fin _ [] (pE I ha) (.inl ah) (by rw[e1];rfl) λb ys eb=>?_;by_cases z:b=a
    ·rw[z,ah]at eb;cases eb
    ·rw[ai z]at eb;exact eb
 ·cases hg
end
end TG
namespace TG
open PySem PySem.Spec PySem.Calls L2
variable[aq]
noncomputable def dh(dd k:D):aU:=match dd with
 |.dct ks ds=>(oN ks ds).bind λal=>(cy k).bind λq=>eB al q
 |_=>none
theorem pK{H:Hp}{O:au}{a:Ma}{u:HO}(h:Rd (hid H O) a u):Rd H a u:=by
 rcases h with h|⟨o,h⟩
 ·exact .inl ((aj H O) _ _ h)
 ·exact .inr ⟨o,(aj H O) _ _ h⟩
end TG
namespace L2
open PySem PySem.Spec PyProof.Rows
end L2
namespace TG
open PySem PySem.Spec L2
variable[aq]
end TG
namespace TG
open PySem PySem.Spec L2
variable[aq]
section
variable{K:KZ}{Hb H:Hp}{Ob O:au}{ρ:ak}{σ:St}
theorem bx.hide(E:bx K Hb Ob O H ρ σ){p:Ma}{o:HO}(m:kF o)(hp:H p=none):bx K Hb Ob (p::O) (upd H p o) ρ σ:=
 ⟨E.env.hideNew m hp,⟨E.base.same.trans (aW hp o),fun a ha=>IC _ (E.base.sub a ha),fun a ha=>by
  rcases List.mem_cons.mp ha with z|z
  ·rw[z];exact .inr (E.base.same.free hp)
  ·exact E.base.new a z⟩,E.mine,λj d q=>(E.nst j d q).to rfl (eT hp) (λb q1 q2 q3 q4 zq=>zq.elim λo' ho=>⟨ai (aP ho hp),IC _ q1,q2,q4⟩) λl d' w=>⟨d',w⟩⟩
theorem bx.new(E:bx K Hb Ob O H ρ σ){p:Ma}(hp:H p=none):Hb p=none/\p∉Ob/\∀(j:Nat) d',ρ[j]?=some (some (.own d'))->σ[j]?≠some (some (.ref p)):=by
 have pO:=E.env.all.not hp;refine⟨E.base.same.free hp,λz=>pO (E.base.sub p z),λj d' w z=>?_⟩;obtain⟨c,e1,e2,_⟩:=E.env.own j d' w;rw[z]at e1;cases e1;exact pO e2
theorem bx.setL(E:bx K Hb Ob O H ρ σ){i:Nat}(hi:i<σ.length)(hn:Br ρ=true){p:Ma}{bs:au}{d:D}(new:pS K H O p bs d)(nd:(p::bs).Nodup)(hb:∀b∈p::bs,b∈O/\Hb b=none/\b∉Ob/\∀(j:Nat) d',ρ[j]?=some (some (.own d'))->σ[j]?≠some (some (.ref b))):
  bx K Hb Ob O H (ρ.set i (some (.nest d))) (σ.set i (some (.ref p))):=by
 have key:∀(j:Nat)(x:S),(ρ.set i (some (.nest d)))[j]?=some (some x)->(j=i/\x=.nest d)\/(j≠i/\ρ[j]?=some (some x)/\(σ.set i (some (.ref p)))[j]?=σ[j]?):=λj x e=>by
  rcases av e with⟨hj,q⟩|⟨ne,q⟩
  ·cases q;exact .inl ⟨hj,rfl⟩
  ·exact .inr ⟨ne,q,IH (Ne.symm ne)⟩
 have own:∀(j:Nat) xs,(ρ.set i (some (.nest d)))[j]?=some (some (.own xs))->ρ[j]?=some (some (.own xs))/\(σ.set i (some (.ref p)))[j]?=σ[j]?:=λj xs e=>by
  rcases key j _ e with⟨_,q⟩|⟨_,q⟩
  ·cases q
  ·exact q
 refine⟨⟨λj d1 e=>?_,λj xs e=>?_,λj l xs ys a e1 e2 e3 e4=>?_,E.env.all⟩,E.base,λj xs a e1 e2=>?_,λj dn e=>?_⟩
 ·rcases key j _ e with⟨_,q⟩|⟨_,q,w⟩
  ·cases q
  ·rw[w];exact E.env.val j d1 q
 ·obtain⟨q,w⟩:=own j xs e;rw[w];exact E.env.own j xs q
 ·obtain⟨q1,w1⟩:=own j xs e1;obtain⟨q2,w2⟩:=own l ys e2;rw[w1]at e3;rw[w2]at e4;exact E.env.one j l xs ys a q1 q2 e3 e4
 ·obtain⟨q,w⟩:=own j xs e1;rw[w]at e2;exact E.mine j xs a q e2
 ·rcases key j _ e with⟨hj,q⟩|⟨_,q,_⟩
  ·cases q;subst hj;refine⟨p,bs,IG hi,new,nd,λb h=>?_,λl d' w=>?_⟩
   ·obtain⟨w1,w2,w3,w4⟩:=hb b h;exact⟨w1,w2,w3,λl d' w=>by obtain⟨q,z⟩:=own l d' w;rw[z];exact w4 l d' q⟩
   ·rcases key l _ w with⟨hl,_⟩|⟨_,q,_⟩
    ·exact hl
    ·exact absurd q (ic hn l d')
  ·exact absurd q (ic hn j dn)
theorem qu:∀{bs:au}{xs:List D}{c:Nat}{x:D},lK K H O bs xs->bs.Nodup->xs[c]?=some x->∃b,bs[c]?=some b/\bT K H O b x/\∀(H':Hp)(O':au)(x':D),(∀c'∈bs,c'≠b->∀z,bT K H O c' z->bT K H' O' c' z)->bT K H' O' b x'->lK K H' O' bs (xs.set c x')
 |b::bs,y::xs,0,x,h,nd,e=>by
  cases e;exact⟨b,rfl,h.1,λH' O' x' f n=>⟨n,h.2.imp λc hc=>f c (IC _ hc) λz=>(List.nodup_cons.mp nd).1 (by rw[<-z];exact hc)⟩⟩
 |b::bs,y::xs,c+1,x,h,nd,e=>by
  obtain⟨b',q1,q2,q3⟩:=qu h.2 (List.nodup_cons.mp nd).2 (show xs[c]?=some x from e);exact⟨b',q1,q2,λH' O' x' f n=>⟨f b IB (λz=>(List.nodup_cons.mp nd).1 (by rw[z];exact IX q1)) _ h.1,q3 H' O' x' (λc' hc=>f c' (IC _ hc)) n⟩⟩
 |[],_::_,_,_,h,_,_=>h.elim
 |[],[],_,_,_,_,e=>by simp at e
end
end TG
namespace TG
open PySem PySem.Spec L2
section
variable{prog:Mh}{w:Mg}{A:Mo}{E:aD}{h:Mj}{g:Array GenState}{d:Drawn}{t:Nat}{os:OsState}
variable{nm q:Str}{C N:Ma}{bs bm bmB:aF}{hdct:Bool}{sn:ay}{sub:aF}{ab:Bool}{col:Option Bool}{dd:Option Ma}{k0 k1 k2 k3 k5:Option L8}{B Bn newId nid initId inN:String}{bmN:aF}{mN:bU}{us:aF}{fI:Ma}{oI:Obj}
theorem pW{Q:PySem.Fin->cF}(Fn:NA Bn newId inN bmN)(hb:bmB.contains (.type Bn)=true)(F:NA B nid initId bmB)(T:OwnTail h bmB bm)
  (hC:h.get? C=some (excClassObj nm q C N bs bm hdct sn sub ab col dd k0 k1 k2 k3 k5 newId)) (hn:h.Ns N mN) (hi:mN "__init__"=some (.ref fI)) (hf:h.get? fI=some oI) (hc:oI.cls=.type "function")
  (hq:∀h' e,Heap.MadeExcOf h h' e (.ref C) us->Mr `g A (call (.ref fI) (.ref e::us)) (λr s'=>r=.none/\Q (.done (.ret (.ref e))) s') E ⟨h',g,d,t,os⟩) (hl:us.length<=Mk):
  Mr `g A (Builtin.«type.__call__» ⟨.ref C::us,[]⟩) Q E ⟨h,g,d,t,os⟩:=by
 repeat (first|with_reducible refine NB hC ?_|with_reducible refine wpAny_madeBy_exc hC ?_|wp_step)
 refine codeAny_call_builtin_code (Code.quiet_builtin _ Fn.quiet) (wpAny_check_new_subU Fn hb T hC (codeAny_exc_new_subU Fn hb F T hC ?_ hl));show Mr _ _ _ _ _ _;obtain⟨o1,e1⟩:∃o:Obj,o={cls:=.type "tuple",data:=.seq us.toArray}:=⟨_,rfl⟩
 obtain⟨o2,e2⟩:∃o:Obj,o={cls:=.ref C,data:=.fields #[.ref h.objs.size,.none,.none,.none,.bool false,.none]}:=⟨_,rfl⟩
 rw[<-e1,<-e2];have up:∀b o,h.get? b=some o->((h.push o1).push o2).get? b=some o:=λb o z=>Ly _ (Ly _ z);have hC1:=up _ _ hC;have hf1:=up _ _ hf;have hn1:((h.push o1).push o2).Ns N mN:=let ⟨o,es,ep,z,r⟩:=hn;⟨o,es,ep,up _ _ z,r⟩
 have hg:((h.push o1).push o2).get? (h.objs.size+1)=some o2:=LI (by simp only[Heap.size_push]) (by rw[e2];rfl);have hg1:((h.push o1).push o2).get? h.objs.size=some o1:=Ly _ (LI rfl (by rw[e1];rfl));have cc:(Value.ref C::bm).contains (.ref C)=true:=by simp
 have T1:=T.keeps (h':=(h.push o1).push o2) up;subst e2;unfold isInstance
 repeat (first|with_reducible refine NB hg ?_|(with_reducible refine wpAny_isSubtype_exc hC1 ?_;rw[cc])|wp_step)
 show Mr _ _ (typeLookup (.ref C) _) _ _ _;refine wpAny_typeLookup_tail hC1 hn1 T1 F.mroIs F.init.lookup ?_;rw[hi];refine MQ (My ?_);unfold bindSpecial;refine My (MT (T:="function") ⟨_,hf1,hc⟩ ?_);rw[if_pos (by decide)];subst e1;refine Mx (My (Mt (hq _ (h.objs.size+1) ⟨up,Lw (Nat.le_succ _),h.objs.size,hg,Lw (IJ _),hg1⟩) (λr s' hr=>?_) λ_ _ x=>x));obtain⟨rfl,hQ⟩:=hr
 wp_walk
 exact hQ
theorem mS{Q:aD}(Fn:NA Bn newId inN bmN)(hb:bmB.contains (.type Bn)=true)(F:NA B nid initId bmB)(T:OwnTail h bmB bm)
  (hC:h.get? C=some (excClassObj nm q C N bs bm hdct sn sub ab col dd k0 k1 k2 k3 k5 newId)) (hn:h.Ns N mN) (hi:mN "__init__"=some (.ref fI)) (hf:h.get? fI=some oI) (hc:oI.cls=.type "function")
  (hq:∀h' e,Heap.MadeExcOf h h' e (.ref C) us->Mr `g (A.under (.builtin "type.__call__" ⟨.ref C::us,[]⟩)) (call (.ref fI) (.ref e::us)) (λr s'=>r=.none/\Q (.ref e) s') E ⟨h',g,d,t,os⟩) (hl:us.length<=Mk):
  Mr `g A (call (.ref C) us) Q E ⟨h,g,d,t,os⟩:=by
 have f1:=tc_lookup;have f2:=tc_bind (.ref C);have hT:(⟨h,g,d,t,os⟩:Mf).TypeIs (.ref C) "type":=⟨_,hC,rfl⟩
 refine M9 (codeAny_of_tree ?_);show Mr _ _ (callAny (.ref C) _) _ _ _
 repeat (any_goals (first|assumption|with_reducible refine NB hC ?_|wp_step))
 exact⟨rfl,codeAny_call_builtin_at (Code.quiet_builtin _ (by decide +kernel)) entry_typeCall (wpAny_check_type_call_sub hC (pW Fn hb F T hC hn hi hf hc (λh' e hm=>hq h' e hm) hl))⟩
end
variable[aq]
noncomputable abbrev Ga(a0:Ma):Data:=.fields #[.ref a0,.none,.none,.none,.bool false,.none]
noncomputable def mX(C e a0:Ma):(Ma->Prop)->Mj->Prop:=λ_ h=>∃o,h.get? e=some o/\o.cls=.ref C/\o.data=Ga a0/\o.dict=none
noncomputable def eJ(C e a0 d:Ma)(fs:List (Str×V)):(Ma->Prop)->Mj->Prop:=λS h=>∃o mA,h.get? e=some o/\o.cls=.ref C/\o.data=Ga a0/\o.dict=some d/\S d/\d≠e/\h.Ns1 d mA/\∀f,kZ (fs.lookup f) (mA f)
theorem DM{h h':Mj}{d:Ma}{mA:bU}(n:h.Ns1 d mA)(k:∀o,h.get? d=some o->h'.get? d=some o):h'.Ns1 d mA:=n.at k
theorem zQ{P:Mh}{w:Mg}{H:Hp}{h:Mj}{C e a0:Ma}(x:mX C e a0 (λb=>H b=some (.own e)) h):a7 P w H h e (.ext (mX C e a0)):=by
 refine⟨x,let ⟨o,q,_⟩:=x;⟨o,q⟩,λS1 S2 h1 h2 z s12 k=>?_⟩;obtain⟨o,q1,q2⟩:=z;exact⟨o,k _ _ (.inl rfl) q1,q2⟩
theorem sQ{P:Mh}{w:Mg}{H:Hp}{h:Mj}{C e a0 d:Ma}{fs:List (Str×V)}(x:eJ C e a0 d fs (λb=>H b=some (.own e)) h):a7 P w H h e (.ext (eJ C e a0 d fs)):=by
 refine⟨x,let ⟨o,_,q,_⟩:=x;⟨o,q⟩,λS1 S2 h1 h2 z s12 k=>?_⟩;obtain⟨o,mA,q1,q2,q3,q4,q5,q6,q7,q8⟩:=z;exact⟨o,mA,k _ _ (.inl rfl) q1,q2,q3,q4,s12 _ q5,q6,DM q7 λo e=>k _ _ (.inr q5) e,q8⟩
section
variable{X:Cx}{pins:aG}{σ:St}{H:Hp}{s:Mf}{A:Mo}{E:aD}{C e a0:Ma}{fs:List (Str×V)}{f:Str}{y:V}{u:L8}{Q:Unit->cF}
theorem qQ{fs:List (Str×V)}{f:Str}(y:V)(h:(fs.map (·.1)).contains f=false)(g:Str):(fs++[(f,y)]).lookup g=if g=f then some y else fs.lookup g:=by
 induction fs with
 |nil=>
  show List.lookup g [(f,y)]=_;rw[Js];by_cases z:g=f
  ·rw[if_pos z,z,beq_self_eq_true]
  ·rw[if_neg z,beq_eq_false_iff_ne.mpr z]
 |cons p r ih=>
  rw[Jg,Ky,Bool.or_eq_false_iff]at h;rw[Jv,Js,Js,ih h.2];have ne:f≠p.1:=by simpa using h.1
  cases q:(g==p.1)with
  |false=>rfl
  |true=>
   have:=beq_iff_eq.mp q
   have nf:¬g=f:=λz=>ne (z.symm.trans this);show some p.2=if g=f then some y else some p.2
   rw[if_neg nf]
theorem lookup_mem{fs:List (Str×V)}{g:Str}{v:V}(h:fs.lookup g=some v):g∈fs.map (·.1):=by
 induction fs with
 |nil=>cases h
 |cons p r ih=>
  rw[Js]at h;cases q:(g==p.1)with
  |true=>rw[Jg,beq_iff_eq.mp q];exact IB
  |false=>rw[q]at h;exact IC _ (ih h)
theorem oy(I:`h)(e1:H e=some (.ext (mX C e a0)))(Z:BE X.K C)(n:f9 X.K C f)(ry:RelV y u)
  (h0:∀d s',H d=none->d≠e->Inv X pins σ (upd (upd H d (.own e)) e (.ext (eJ C e a0 d [(f,y)]))) s'->Q () s'):Mr `i A (setAttr (.ref e) f u) Q E s:=by
 obtain⟨⟨o,q1,q2,q3,q6⟩,_,_⟩:=(show a7 X.prog X.w H s.heap e (.ext (mX C e a0))from I.hok e _ e1)
 refine xL Z I.kIn q1 q2 q3 q6 n λh' n2 s2=>h0 s.heap.objs.size _ (I.hok.fresh (IJ _)) (Ne.symm (Iw (Lv q1))) ?_;have ne:e≠s.heap.objs.size:=Iw (Lv q1);have I1:=I.laid (a:=s.heap.objs.size) (o:=.own e) (h':=s.heap.push {cls:=.type "dict",data:=.dict #[]}) (t':=s.toks) (λb o z=>Ly _ z) (IJ _) ⟨_,Lz s.heap rfl⟩;have g1:(s.heap.push {cls:=.type "dict",data:=.dict #[]}).get? e=some o:=Ly _ q1;have g2:((s.heap.push {cls:=.type "dict",data:=.dict #[]}).update e λo=>{o with dict:=some s.heap.objs.size}).get? e=some {o with dict:=some s.heap.objs.size}:=LJ (λo=>{o with dict:=some s.heap.objs.size}) g1 (Obj.isFreed_of_fields (o:={o with dict:=some s.heap.objs.size}) q3);have I2:=I1.write (x:=e) (e:=e) (o:=.ext (ra C e (some s.heap.objs.size))) (t':=s.toks) (h':=(s.heap.push {cls:=.type "dict",data:=.dict #[]}).update e λo=>{o with dict:=some s.heap.objs.size}) (by rw[ai ne,e1];trivial) (.inl rfl) (λb u nb z=>(LD _ _ _ _ nb).trans z) ⟨_,g2⟩
  ⟨⟨_,g2,q2,rfl,by unfold Lc;rw[q3]⟩,⟨_,g2⟩,λ_ _ h1 h2 ⟨o,z1,z2⟩ _ k=>⟨o,k _ o (.inl rfl) z1,z2⟩⟩
 have g3:h'.get? e=some {o with dict:=some s.heap.objs.size}:=(s2.2 e ne).trans g2;have I3:=I2.write (x:=e) (e:=s.heap.objs.size) (o:=.ext (eJ C e a0 s.heap.objs.size [(f,y)])) (t':=s.toks+2) (h':=h') (by rw[ah];trivial) (.inr (by rw[ai ne.symm,ah])) (λb u nb z=>(s2.2 b nb).trans z) (let ⟨o,_,_,z,_⟩:=n2;⟨o,z⟩)
  (sQ ⟨_,_,g3,q2,q3,rfl,by dsimp only;rw[ai ne.symm,ai ne.symm,ah],ne.symm,n2,λg=>?_⟩)
 ·rw[Bc]at I3;exact I3
 ·rw[Js];by_cases z:g=f
  ·rw[if_pos z,z];simpa [kZ]using ry
  ·rw[if_neg z,beq_eq_false_iff_ne.mpr z];trivial
theorem oJ{d:Ma}(I:`h)(e1:H e=some (.ext (eJ C e a0 d fs)))(Z:BE X.K C)(n:f9 X.K C f)(hl:fs.length<1000)(hc:(fs.map (·.1)).contains f=false)(ry:RelV y u)
  (h1:∀s',Inv X pins σ (upd H e (.ext (eJ C e a0 d (fs++[(f,y)])))) s'->Q () s'):Mr `i A (setAttr (.ref e) f u) Q E s:=by
 obtain⟨⟨o,mA,q1,q2,q3,p1,p2,p3,p4,p5⟩,_,_⟩:=(show a7 X.prog X.w H s.heap e (.ext (eJ C e a0 d fs))from I.hok e _ e1)
 have wi:PySem.Within mA (fs.map (·.1)):=λg hg=>by
  cases z:fs.lookup g with
  |none=>have:=p5 g;rw[z]at this;exact absurd (kZ.none_of this) hg
  |some v=>exact lookup_mem z
 refine wM Z I.kIn q1 q2 (by unfold Lc;rw[q3]) p1 p4 n wi (by rw[IZ,MD];omega) λh' n2 s2=>h1 _ ?_;refine I.write (x:=e) (e:=d) (t':=s.toks+2) (by rw[e1];trivial) (.inr p2) (λb u nb z=>(s2.2 b nb).trans z) (let ⟨o,_,_,z,_⟩:=n2;⟨o,z⟩) (sQ ⟨o,_,(s2.2 e p3.symm).trans q1,q2,q3,p1,by dsimp only;rw[ai p3];exact p2,p3,n2,λg=>?_⟩);rw[qQ y hc];by_cases z:g=f
 ·rw[if_pos z,if_pos z];exact ry
 ·rw[if_neg z,if_neg z];exact p5 g
end
noncomputable def Fa(K:KZ)(ta tv:TE)(f:Str):TS:=λD σ H=>tv σ H λy H1=>ta σ H1 λx H2=>∃e C a0,x=.ref e/\BE K C/\f9 K C f/\
  ((H2 e=some (.ext (mX C e a0))/\∀ d,H2 d=none->d≠e->D.nx σ (upd (upd H2 d (.own e)) e (.ext (eJ C e a0 d [(f,y)])))) \/
   ∃d fs,H2 e=some (.ext (eJ C e a0 d fs))/\fs.length<1000/\(fs.map (·.1)).contains f=false/\D.nx σ (upd H2 e (.ext (eJ C e a0 d (fs++[(f,y)])))))
section
variable{X:Cx}
theorem zO{o value:Mb}{f:Str}{pos pos':Pos}{ta tv:TE}(ha:PE X o ta)(hv:PE X value tv)(hs:swapsWith value (some (.Attribute o f pos')) pos.line X.env=pure false):PS X (.Assign [.Attribute o f pos'] value pos) (Fa X.K ta tv f):=by
 intro pins s σ H D I h;refine plainObj_wpAny_Assign_Attribute (cg (hv pins s σ H _ I h) λu s1 h1=>?_) hs;obtain⟨y,H1,I1,ry,q⟩:=h1;refine cg (ha pins s1 σ H1 _ I1 q) λov s2 h2=>?_;obtain⟨x,H2,I2,rx,e,C,a0,ex,Z,n,q⟩:=h2;subst ex;obtain rfl:ov=Value.ref e:=rx;rcases q with⟨ea,q⟩|⟨d,fs,ea,l,nc,q⟩
 ·exact oy I2 ea Z n ry λd s3 hd ne I3=>⟨σ,_,I3,q d hd ne⟩
 ·exact oJ I2 ea Z n l nc ry λs3 I3=>⟨σ,_,I3,q⟩
noncomputable def BZ(X:Cx)(body:cq)(fs:ay)(i:Nat):Prop:=
 ∃t,o4 X body t/\∀(D:Ends)(σ:St)(H:Hp)(e C a0:Ma)(as:aB),σ[0]?=some (some (.ref e))->(∀j v,as[j]?=some v->σ[i+j]?=some (some v))->as.length=fs.length->BE X.K C->(∀f∈fs,f9 X.K C f)->
  (fs.length<1000->fs.Nodup->H e=some (.ext (mX C e a0))->(∀d,H d=none->d≠e->D.nx σ (upd (upd H d (.own e)) e (.ext (eJ C e a0 d (fs.zip as)))))->t D σ H)/\
  ∀d done,done.length+fs.length<1000->(done.map (·.1)++fs).Nodup->H e=some (.ext (eJ C e a0 d done))->D.nx σ (upd H e (.ext (eJ C e a0 d (done++fs.zip as))))->t D σ H
theorem Fu{done:List (Str×V)}{f:Str}{fs:ay}(nd:(done.map (·.1)++f::fs).Nodup):(done.map (·.1)).contains f=false:=by
 rw[List.nodup_append]at nd;cases hc:(done.map (·.1)).contains f with
 |false=>rfl
 |true=>exact absurd rfl (nd.2.2 f (List.contains_iff_mem.mp hc) f IB)
theorem uP{st:Md}{f:Str}{i:Nat}{o v:Mb}{p1 p2:Pos}(hst:st=.Assign [.Attribute o f p1] v p2)(ho:PE X o (xn 0))(hv:PE X v (xn i))(hs:swapsWith v (some (.Attribute o f p1)) p2.line X.env=pure false):BZ X [st] [f] i:=by
 subst hst;refine⟨_,tD (zO ho hv hs),λD σ H e C a0 as h0 ha hl Z na=>?_⟩;obtain⟨a,rfl⟩:=List.length_eq_one_iff.mp hl;exact⟨λ_ _ hx q=>⟨a,ha 0 a rfl,.ref e,h0,e,C,a0,rfl,Z,na f IB,.inl ⟨hx,q⟩⟩,λd done hz nd hx q=>⟨a,ha 0 a rfl,.ref e,h0,e,C,a0,rfl,Z,na f IB,.inr ⟨d,done,hx,by simp at hz;omega,Fu nd,q⟩⟩⟩
end
noncomputable def HL(C:Ma)(fs:ay):Sp:=λvs H Q _=>∃e a0 as,vs=.ref e::as/\as.length=fs.length/\H e=some (.ext (mX C e a0))/\∀d,H d=none->d≠e->Q .non (upd (upd H d (.own e)) e (.ext (eJ C e a0 d (fs.zip as))))
structure FZ(K:KZ)(C f:Ma):Prop where
 cls:∃nm q N bs bm hdct sn sub ab col dd k0 k1 k2 k3 k5,∀h,K.In h->h.get? C=some (excClassObj nm q C N bs bm hdct sn sub ab col dd k0 k1 k2 k3 k5 "ValueError.__new__")/\(∃mN,h.Ns N mN/\mN "__init__"=some (.ref f))/\OwnTail h HK bm
 fn:Ln K (.ref f)=some (.type "function")
 st:BE K C
 kp:La K (.ref C)=true
noncomputable def rk(K:KZ)(C:Ma)(f:Ma):Bool:=match K.lookup C with
 |some ⟨.type "type",_,.cls k,slots⟩=>(match k.mro,slots.toList with
  |.ref c0::tl,[_,_,_,_,some (.builtin j),_]=>c0==C&&(j=="ValueError.__new__"&&(!k.hasDel&&(PySem.W.tailIn K HK tl&&(PySem.W.nsOkIn K k.ns&&Lb K k.ns "__init__"==some (some (.ref f))))))
  |_,_=>false)
 |_=>false
theorem Fy{K:KZ}{h:Mj}{N:Ma}{m:bU}{n:Str}{v:L8}(X:K.In h)(G:h.Ns N m)(e:Lb K N n=some (some v)):m n=some v:=by
 obtain⟨o,es,ep,g1,g2,_,g3⟩:=G;unfold Lb at e;split at e
 ·rename_i look;have z:=X _ _ look;rw[g1]at z;cases z;cases g2;rw[<-g3];unfold nsFind findBy;rw[<-Array.find?_toList];split at e
  ·rename_i y;rw[y];cases e;rfl
  ·split at e<;>cases e
 ·cases e
theorem Ee{K:KZ}{C f:Ma}(q:rk K C f=true)(fn:Ln K (.ref f)=some (.type "function"))(st:BE K C)(kp:La K (.ref C)=true):FZ K C f:=by
 refine⟨?_,fn,st,kp⟩;unfold rk at q;split at q
 ·rename_i od data slots look;split at q
  ·rename_i C0 tl s0 s1 s2 s3 nid s5 e1 e2;simp only[Jc,beq_iff_eq,J4]at q;obtain⟨y1,y2,y3,y4,y5,y6⟩:=q;subst y1 y2;obtain⟨d1,d2,d3,d4,d5,d6,d7,d8,d9,d10,d11⟩:=data;dsimp only at e1 y3 y5 y6;subst e1 y3;have hs:slots=#[s0,s1,s2,s3,some (.builtin "ValueError.__new__"),s5]:=by
    cases slots with
    |mk l=>rw[show l=_ from e2]
   subst hs;exact⟨d1,d5,d4,d2,tl,d6,d7,d8,d9,d10,od,s0,s1,s2,s3,s5,λh X=>⟨X _ _ look,⟨_,.of_isNs (Lp X y5),Fy X (.of_isNs (Lp X y5)) y6⟩,PySem.W.tail_of_in X y4⟩⟩
  ·cases q
 ·cases q
noncomputable def k7(P:Mh)(w:Mg)(K:KZ)(mg:bU)(base:Mj)(k:Nat)(c:Str)(ps fs:ay):Prop:=
 ∃C f fd,clsAt K c C/\FZ K C f/\iW P w K mg base (kT P w) k f fd ps (HL C fs)/\Binds K fd ps []/\mg c=some (.ref C)
theorem sM{P:Mh}{w:Mg}{K:KZ}{mg:bU}{base:Mj}{k:Nat}{ps:ay}{c qual:Str}{C f:Ma}{fd:MH}{st:Md}{fs:ay}(h1:clsAt K c C)(hM:FZ K C f)(na:∀g∈fs,f9 K C g)(F:wa K "__init__" qual st f fd)(b:Binds K fd ps [])(hmg:mg c=some (.ref C))(SC:dq ps ps (aC st))(hps:ps.length=fs.length+1)(hnd:fs.Nodup)(hlen:fs.length<1000)
  (hb:∀(cdv:L8)(A:Mo)(outer:List Env)(s:Mf)(H:Hp)(E:XK),BZ (gI Gj P w K mg base ps qual (aC st) f cdv A outer s H E).nox (cz st) fs 1):k7 P w K mg base (k+1) c ps fs:=by
 refine⟨C,f,fd,h1,hM,?_,b,hmg⟩;refine iW.any (F.ok SC (λvs H Q E h=>?_) λcdv A outer s H vs Q E hr h=>?_)
 ·obtain⟨e,a0,as,rfl,hl,_⟩:=h;rw[Jl,hl,hps]
 ·obtain⟨t,ht,hq⟩:=hb cdv A outer s H E;obtain⟨e,a0,as,rfl,hl,hx,q⟩:=h;have hst:L2.start ps (.ref e::as)=(.ref e::as).map some:=by
   unfold L2.start;rw[Jl,hl,hps,Nat.sub_self,KJ,IM]
  refine⟨t,ht,(hq _ _ H e C a0 as (by rw[hst];rfl) (λj v z=>?_) hl hM.st na).1 hlen hnd hx q⟩;rw[hst,Nat.add_comm,Jg,KI,IV,z];rfl
theorem se{M:Mq}{A:Mo}{E:aD}{env:Env}{nm q:Str}{C N:Ma}{bs bm:aF}{hdct:Bool}{sn:ay}{sub:aF}{ab:Bool}{col:Option Bool}{dd:Option Ma}{k0 k1 k2 k3 k5:Option L8}{newId:String}{s:Mf}{x:Sem L8}{Q:Flow->cF}(hb:bm.contains (.type "BaseException")=true)(hh:A.handled=none)
  (h:Mr M A x (λv s₁=>∃e t dx sl,v=.ref e/\s₁.heap.get? C=some (excClassObj nm q C N bs bm hdct sn sub ab col dd k0 k1 k2 k3 k5 newId)/\s₁.heap.get? e=some ⟨.ref C,dx,Ga t,sl⟩/\E (.ref e) s₁) E s):Mr M A (raiseStmt env (some x) none) Q E s:=by
 have hc:(Value.ref C::bm).contains (.type "BaseException")=true:=by rw[Ky,hb,Kz]
 unfold raiseStmt;refine My (Mt h (λv s₁ h₁=>?_) λ_ _ x=>x);obtain⟨e,t,dx,sl,rfl,hC,he,hE⟩:=h₁;obtain⟨hp,g,d,tk,os⟩:=s₁
 repeat (first|with_reducible refine NB he ?_|with_reducible refine NB hC ?_|(with_reducible refine wpAny_isSubtype_exc hC ?_;rw[hc])|wp_step)
 exact wpAny_raiseNew_none hh hE
section
variable{X:Cx}{pins:aG}{σ:St}{H:Hp}{s:Mf}
theorem adopt{e:Ma}{ob:HO}(I:`h)(hn:H e=none)(h0:X.s₀.heap.get? e=none)(hL:e≠X.env.locals)(hcl:∀x,X.env.cells.lookup x≠some e)(hp:∀p∈X.pn++pins,p.1≠e)(new:a7 X.prog X.w (upd H e ob) s.heap e ob):Inv X pins σ (upd H e ob) s:=by
 have ne:∀b u,H b=some u->b≠e:=λb u q z=>by rw[z,hn]at q;cases q
 have U:=I.base;refine⟨I.ok,I.os,I.bare,⟨U.keep,U.slot,λb o q n nx=>?_,U.there,λb xs q=>?_,λb o u q=>?_,λb ps q=>?_⟩,I.loc,I.cell,?_,λx c q=>?_,λp q=>?_,λa o q=>?_,I.len⟩
 ·rw[ai λz=>by rw[z,h0]at q;cases q];exact U.free b o q n nx
 ·have:=U.tups b xs q;rw[ai (ne _ _ this)];exact this
 ·have:=U.frzs b o u q;rw[ai (ne _ _ this)];exact this
 ·obtain⟨more,z⟩:=U.tbls b ps q;exact⟨more,by rw[ai (ne _ _ z)];exact z⟩
 ·rw[ai hL.symm];exact I.free
 ·rw[ai λz=>hcl x (by rw[<-z];exact q)];exact I.freeC x c q
 ·obtain⟨a1,a2,a3⟩:=I.pin p q;exact⟨a1,by rw[ai (hp p q)];exact a2,a3⟩
 ·by_cases z:a=e
  ·subst z;rw[ah]at q;cases q;exact new
  ·rw[ai z]at q;exact(I.hok a o q).stay (λb u _ q=>q) (λb q=>by rw[ai (ne _ _ q)];exact q) λb xs q=>by rw[ai (ne _ _ q)];exact q
theorem mZ{e:Ma}(I:`h)(hx:X.ex=[])(n:s.heap.get? e=none):H e=none/\X.s₀.heap.get? e=none/\e≠X.env.locals/\(∀x,X.env.cells.lookup x≠some e)/\∀p∈X.pn++pins,p.1≠e:=by
 refine⟨?_,?_,λz=>?_,λx q=>?_,λp hp z=>?_⟩
 ·cases q:H e with
  |none=>rfl
  |some ob=>obtain⟨o,z⟩:=yH (I.hok e ob q);rw[n]at z;cases z
 ·cases q:X.s₀.heap.get? e with
  |none=>rfl
  |some o=>obtain⟨o',z⟩:=I.base.there e o q (by rw[hx];simp);rw[n]at z;cases z
 ·obtain⟨m,⟨o,es,ep,e2,_⟩,_⟩:=I.loc;rw[<-z,n]at e2;cases e2
 ·obtain⟨v,o,z,_⟩:=I.cell x e q;rw[n]at z;cases z
 ·have:=(I.pin p hp).1
  rw[z,n]at this;cases this
theorem Bm{s3:Mf}{C e a0 d:Ma}{fs:List (Str×V)}(I:`h)(hx:X.ex=[])(n:s.heap.get? e=none)(hd:H d=none)(I3:Inv X pins σ (upd (upd H d (.own e)) e (.ext (eJ C e a0 d fs))) s3):
  Inv X pins σ (upd H d (.xd fs)) s3/\ue X (upd H d (.xd fs)) s3 e C (some d)/\∃sl,s3.heap.get? e=some ⟨.ref C,some d,Ga a0,sl⟩:=by
 obtain⟨hn,h0,hL,hcl,hp⟩:=mZ I hx n;obtain⟨⟨o,mA,q1,q2,q3,q4,q5,q6,q7,q8⟩,_,_⟩:=(show a7 X.prog X.w _ s3.heap e (.ext (eJ C e a0 d fs))from I3.hok e _ ah)
 have He:upd H d (.xd fs) e=none:=by rw[ai q6.symm];exact hn
 have d3:upd (upd H d (.own e)) e (.ext (eJ C e a0 d fs)) d=some (.own e):=by rw[ai q6,ah]
 have away:∀b,b≠e->b≠d->upd H d (.xd fs) b=upd (upd H d (.own e)) e (.ext (eJ C e a0 d fs)) b:=λb n1 n2=>by rw[ai n2,ai n1,ai n2]
 have none3:∀b,upd (upd H d (.own e)) e (.ext (eJ C e a0 d fs)) b=none->b≠e/\b≠d:=λb z=>⟨λw=>(by rw[w,ah]at z;cases z),λw=>(by rw[w,d3]at z;cases z)⟩
 have some3:∀b u,upd (upd H d (.own e)) e (.ext (eJ C e a0 d fs)) b=some u->(∀φ,u≠.ext φ)->(∀y,u≠.own y)->upd H d (.xd fs) b=some u:=λb u z n1 n2=>by
  rw[away b (λw=>by rw[w,ah]at z;cases z;exact n1 _ rfl) λw=>by rw[w,d3]at z;cases z;exact n2 _ rfl];exact z
 have U:=I3.base;have I4:Inv X pins σ (upd H d (.xd fs)) s3:=by
  refine⟨I3.ok,I3.os,I3.bare,⟨U.keep,U.slot,λb o q n nx=>?_,U.there,λb xs q=>?_,λb o u q=>?_,λb ps q=>?_⟩,I3.loc,I3.cell,?_,λx c q=>?_,λp q=>?_,λa o q=>?_,I3.len⟩
  ·have z:=U.free b o q n nx;obtain⟨n1,n2⟩:=none3 b z;rw[away b n1 n2];exact z
  ·exact some3 _ _ (U.tups b xs q) (λ_ z=>nomatch z) λ_ z=>nomatch z
  ·exact some3 _ _ (U.frzs b o u q) (λ_ z=>nomatch z) λ_ z=>nomatch z
  ·obtain⟨more,z⟩:=U.tbls b ps q;exact⟨more,some3 _ _ z (λ_ z=>nomatch z) λ_ z=>nomatch z⟩
  ·obtain⟨n1,n2⟩:=none3 _ I3.free;rw[away _ n1 n2];exact I3.free
  ·obtain⟨n1,n2⟩:=none3 _ (I3.freeC x c q);rw[away _ n1 n2];exact I3.freeC x c q
  ·obtain⟨a1,a2,a3⟩:=I3.pin p q;obtain⟨n1,n2⟩:=none3 _ a2;exact⟨a1,by rw[away _ n1 n2];exact a2,a3⟩
  ·by_cases z:a=d
   ·subst z;rw[ah]at q;cases q;exact⟨mA,q7,q8⟩
   ·have ae:a≠e:=λw=>by rw[w,He]at q;cases q
    rw[away a ae z]at q;refine(I3.hok a o q).stay (λb u _ q=>q) (λb w=>?_) λb xs w=>some3 _ _ w (λ_ z=>nomatch z) λ_ z=>nomatch z;rw[away b (λy=>by rw[y,ah]at w;cases w) λy=>by rw[y,d3]at w;cases w;exact ae rfl];exact w
 obtain⟨oc,odi,oda,osl⟩:=o;dsimp only at q2 q3 q4;subst q2 q3 q4;have nk:¬fQ X (upd H d (.xd fs)) e:=λz=>by
  rcases z with⟨⟨o,z⟩,_⟩|z|⟨o,z⟩|⟨x,z⟩
  ·rw[h0]at z;cases z
  ·exact z He
  ·exact hp _ (IE _ z) rfl
  ·exact hcl x z
 refine⟨I4,⟨λoe z=>by rw[q1]at z;cases z;rfl,kR s3.heap (λb=>if b∈frs X.stack\/b=e then some (.tup [])else none),.ref a0,λb o z=>(li z).1,?_,ji (λ_ _ z=>z) (λb hb=>?_) I4.stack,.inr ⟨_,_,q1,rfl,rfl,rfl,rfl⟩,λb o z kb nf=>qI z (if_neg ?_)⟩,osl,q1⟩
 ·cases z:(kR s3.heap (λb=>if b∈frs X.stack\/b=e then some (.tup [])else none)).get? e with
  |none=>rfl
  |some o=>have:=(li z).2;rw[if_pos (.inr rfl)]at this;cases this
 ·cases z:(kR s3.heap (λb=>if b∈frs X.stack\/b=e then some (.tup [])else none)).get? b with
  |none=>rfl
  |some o=>have:=(li z).2;rw[if_pos (.inl hb)]at this;cases this
 ·rintro(w|w)
  ·exact nf w
  ·exact nk (w ▸ kb)
end
noncomputable def g8(c:Str)(fs:ay)(f:aN):bG:=λk ρ=>kS (f ρ) k ρ λds=>if small ds.length&&ds.length==fs.length then k.ex ⟨c,fs,ds⟩ ρ else un
end TG
namespace TG
open PySem PySem.Spec L2
variable[aq]
noncomputable def vV(K:KZ)(f:Str)(cs:ay):Prop:=∀c∈cs,∀C,clsAt K c C->wB K C/\f9 K C f/\Lq K C=true
theorem yz{K:KZ}{f:Str}:vV K f []:=λ_ h=>nomatch h
theorem vQ{K:KZ}{f c:Str}{C:Ma}{cs:ay}(ac:clsAt K c C)(F:wB K C)(n:f9 K C f)(hd:Lq K C=true)(r:vV K f cs):vV K f (c::cs):=λc' h C' hC=>by
 rcases List.mem_cons.mp h with z|z
 ·subst z;cases n8 hC ac;exact⟨F,n,hd⟩
 ·exact r c' z C' hC
noncomputable def qY(f:Str)(cs:ay)(d:D):aU:=match d with
 |.exc c fs vs=>if cs.contains c then(fs.zip vs).lookup f else none
 |_=>none
section
variable{X:Cx}{pos:Pos}{a:Mb}{fa:FX}{f:Str}{cs:ay}
noncomputable def EC(K:KZ)(ta:TE)(f:Str):TE:=λσ H Q=>ta σ H λx H1=>∃e C d fs v,x=.ref e/\H1 e=some (.ext (ra C e (some d)))/\H1 d=some (.xd fs)/\wB K C/\f9 K C f/\Lq K C=true/\fs.lookup f=some v/\Q v H1
theorem zp{e:Mb}{ta:TE}(he:PE X e ta)(hb:ME e f X.env (eval e X.env)=eval e X.env):PE X (.Attribute e f pos) (EC X.K ta f):=by
 intro pins s σ H Q I h;refine Au hb (cg (he pins s σ H _ I h) λu s1 h1=>?_);obtain⟨x,H1,I1,rx,e,C,d,fs,v,ex,ea,ed,F,n,hd,l,q⟩:=h1;subst ex;obtain rfl:u=Value.ref e:=rx;obtain⟨⟨o,q1,q2,q3,q4⟩,_,_⟩:=(show a7 X.prog X.w H1 s1.heap e (.ext (ra C e (some d)))from I1.hok e _ ea)
 obtain⟨mA,n1,n2⟩:=(show a7 X.prog X.w H1 s1.heap d (.xd fs)from I1.hok d _ ed)
 obtain⟨od,ho,hl⟩:=uR n1;obtain⟨u,hu,ru⟩:=kZ.some_of (v:=v) (o:=mA f) (by rw[<-l];exact n2 f);refine xP F I1.kIn (od:=some od) ⟨q1,q2,q4,by rw[q3];exact ho⟩ (PySem.W.findObj_own hd n rfl (by rw[hl,hu])) (vq ru) ⟨v,H1,I1.tok _,ru,q⟩
end
end TG
namespace TG
open PySem PySem.Spec L2
variable[aq]
end TG
namespace L2
open PySem PySem.Spec PyProof.Rows
end L2
namespace TG
open PySem PySem.Spec L2
variable[aq]
end TG
namespace TG
open PySem PySem.Spec PySem.Calls L2
variable[aq]
end TG
namespace TG
open PySem PySem.Spec PySem.Calls L2
variable[aq]
section
variable{X:Cx}{pos:Pos}
noncomputable def Gk(n:Nat)(g:v8):GF:=λd ρ=>match d with
 |.lst xs=>if xs.length=n then g xs ρ else none
 |_=>none
end
end TG
namespace TG
open PySem PySem.Spec L2
variable[aq]
end TG
namespace TG
open PySem PySem.Spec PySem.Calls L2
variable[aq]
end TG
namespace TG
open PySem PySem.Spec PySem.Calls L2
variable[aq]
end TG
namespace L2
open PySem PySem.Spec PyProof.Rows
end L2
namespace TG
open PySem PySem.Spec L2
variable[aq]
end TG
namespace TG
open PySem PySem.Spec PySem.Calls L2
variable[aq]
end TG
namespace TG
open PySem PySem.Spec PyProof.Rows L2
end TG
namespace TG
open PySem PySem.Spec L2
variable[aq]
theorem bx.rewr{K:KZ}{Hb H:Hp}{Ob O:au}{ρ:ak}{σ:St}(S:bx K Hb Ob O H ρ σ)(hn:Br ρ=true){p:Ma}{o:HO}(m:kF o)(hp:p∈O)(hb:Hb p=none)(hs:∀(j:Nat) d',ρ[j]?=some (some (.own d'))->σ[j]?≠some (some (.ref p))):bx K Hb Ob O (upd H p o) ρ σ:=
 ⟨S.env.rewrite m hp hs,⟨fun c u h=>by
  have cp:c≠p:=λz=>by rw[z,hb]at h;cases h
  rw[ai cp];exact S.base.same c u h,S.base.sub,S.base.new⟩,S.mine,λj d q=>absurd q (ic hn j d)⟩
theorem mF{K:KZ}{H:Hp}{O:au}:∀{bs:au}{ds:List D},bs.length=ds.length->(∀b∈bs,H b=some (.dT []))->lK K H O bs (ds.map λ_=>.dct [] [])
 |[],[],_,_=>trivial
 |b::bs,_::ds,e,h=>⟨⟨.dT [],[],h b IB,bB.mpr rfl,.inr ⟨[],rfl,rfl,rfl⟩⟩,mF (Nat.succ.inj e) λb hb=>h b (IC _ hb)⟩
 |[],_::_,e,_=>by cases e
 |_::_,[],e,_=>by cases e
noncomputable def gZ(i:Nat)(G:aN):bG:=λk ρ=>(pM (G ρ)).bind λds=>if Br ρ&&small ds.length then k.nx (ρ.set i (some (.nest (.lst (ds.map λ_=>.dct [] [])))))else un
theorem vw{K:KZ}{H:Hp}{O:au}{σ:St}(h:bQ H O):b7 K O H [none] σ:=by
 have no:∀(i:Nat) x,([none]:ak)[i]?≠some (some x):=λi x z=>by
  cases i with
  |zero=>cases z
  |succ i=>cases z
 exact⟨λi d e=>absurd e (no _ _),λi d e=>absurd e (no _ _),λi j xs ys a e=>absurd e (no _ _),h⟩
theorem FH{X:Cx}{tg iter:Mb}{scope:Mp}{N:ay}{G:aN}{i:Nat}{y:Str}{dp lpos py spos:Pos}(hN:X.N.Nodup)(hi':X.N[i]?=some y)(hx:Loc X.env.scope y)
  (hc:X.calm=true) (ok:iQ X scope N [none]) (hi:FI X tg iter G) (hb:∀cl C' fp s H E,FG (bf X scope N cl C' fp s H E) tg (gN 0))
  (hsw:swapsWith (.ListComp (.Dict [] [] dp) [⟨tg,iter,[],0⟩] scope lpos) (some (.Name y py)) spos.line X.env=pure true:=by rfl)
  (hs:∀x,Mz iter X.env x=pure x:=by intro _;rfl)
  (hf:X.fn y=true\/X.env.scope.names.lookup y=some .local:=by first|exact .inl rfl|exact .inr rfl|assumption):
  FS X (.Assign [.Name y py] (.ListComp (.Dict [] [] dp) [⟨tg,iter,[],0⟩] scope lpos) spos) (gZ i G):=λHb Ob pins s σ H E I zq=>zq.elim λO zq=>zq.elim λρ zq=>zq.elim λk zq=>zq.elim λr zq=>zq.elim λS zq=>zq.elim λhF hk=>by
 unfold gZ at hF;cases eG:G ρ with
 |error z=>rw[eG]at hF;exact absurd hF.symm hk.ne
 |ok ds=>
 rw[eG]at hF;have hF:(if Br ρ&&small ds.length then k.nx (ρ.set i (some (.nest (.lst (ds.map λ_=>.dct [] [])))))else un)=r:=hF;cases hn':Br ρ&&small ds.length with
 |false=>rw[hn']at hF;exact absurd hF.symm hk.ne
 |true=>
 rw[hn',if_pos rfl]at hF;obtain⟨hn,hz⟩:=Jc _ _ ▸ hn';refine yT (wi:=Gp X G) (g:=Ez X.K (gN 0)) (tc:=AH X.K b9) (te:=wx) hN hi' hx hc ok.cell ok.kind ok.names ok.free ok.ix hi (λcl C' fp s H E=>⟨hb cl C' fp s H E,λpins s σ H Q I zq=>zq.elim λO zq=>zq.elim λρ zq=>zq.elim λb zq=>zq.elim λe1 zq=>zq.elim λe2 q=>zT pins s σ H Q I ⟨O,ρ,e1,by rw[e2];exact q⟩,qi⟩) hsw hs hf pins s σ H E I ?_;refine⟨O,ρ,S.env,?_⟩;rw[eG];intro J H1 s1 wk D hD;have S1:=S.same s1;obtain⟨d1,d2,d3⟩:=S1.new hD;refine⟨λi m σ' H'=>m=ds.length-i/\i<=ds.length/\∃O' bs,bs.length=i/\bx X.K Hb Ob O' H' ρ σ/\aI (hid H1 O) (hid H' O')/\H' D=some (.lst (bs.map .ref))/\(D::bs).Nodup/\(∀b∈D::bs,b∈O'/\Hb b=none/\b∉Ob/\∀(j:Nat) d',ρ[j]?=some (some (.own d'))->σ[j]?≠some (some (.ref b)))/\∀b∈bs,H' b=some (.dT []),
  ⟨ds.length,by rw [JM],Jq _,D::O,[],rfl,S1.hide trivial hD,eT hD,ah,by simp,fun b hb=>by
   rw[List.mem_singleton.mp hb];exact⟨IB,d1,d2,d3⟩,λb hb=>nomatch hb⟩,?_⟩
 rintro i m σ' H' ⟨rfl,hi,O',bs,hl,S',sH,hacc,nd,hbs,hem⟩;by_cases hlt:i<ds.length
 ·right;obtain⟨go,yl⟩:=(wk H' O' i S'.env.all sH).1 ds[i] (by simp[hlt]);refine⟨go,λx H2 y=>?_⟩;obtain⟨s2,dx'⟩:=yl x H2 y;refine⟨O',[none],ds[i],[some (.val ds[i])],vw (S'.env.all.same s2),dx',rfl,λσ3 E3 _=>?_⟩;refine⟨O',_,true,E3,rfl,λH4 s4=>uF λp hp=>?_⟩;have s24:=s2.trans s4;have S4:=S'.same s24;obtain⟨p1,p2,p3⟩:=S4.new hp;have a4:=s24 _ _ hacc;have Dp:D≠p:=aP a4 hp;have bp:∀b∈bs,b≠p:=λb hb=>aP (s24 _ _ (hem b hb)) hp;have hzl:ds.length<Mk:=JP (of_decide_eq_true hz) (by decide);have S5:=S4.hide (o:=.dT []) trivial hp;obtain⟨D1,D2,D3,D4⟩:=hbs D IB;have S6:=S5.rewr hn (o:=.lst (bs.map .ref++[.ref p])) trivial (IC _ D1) D2 D4;refine⟨bs.map .ref,by rw[ai Dp];exact a4,by rw[IZ];omega,ds.length-(i+1),by omega,rfl,hlt,p::O',bs++[p],by rw[IY,hl];rfl,S6,?_,?_,?_,λb hb=>?_,λb hb=>?_⟩
  ·exact((sH.trans (aM s24)).trans (eT hp)).trans (dI (IC _ D1))
  ·rw[ah,JG];rfl
  ·obtain⟨n1,n2⟩:=List.nodup_cons.mp nd;refine List.nodup_cons.mpr ⟨λz=>?_,?_⟩
   ·rcases List.mem_append.mp z with z|z
    ·exact n1 z
    ·exact Dp (List.mem_singleton.mp z)
   ·exact List.nodup_append.mpr ⟨n2,by simp,λa ha b hb=>by rw[List.mem_singleton.mp hb];exact bp a ha⟩
  ·rcases List.mem_cons.mp hb with z|z
   ·rw[z];exact⟨IC _ D1,D2,D3,D4⟩
   ·rcases List.mem_append.mp z with z|z
    ·obtain⟨q1,q2⟩:=hbs b (IC _ z);exact⟨IC _ q1,q2⟩
    ·rw[List.mem_singleton.mp z];exact⟨IB,p1,p2,p3⟩
  ·have bD:b≠D:=λz=>by
    rcases List.mem_append.mp hb with q|q
    ·exact(List.nodup_cons.mp nd).1 (by rw[<-z];exact q)
    ·exact Dp (by rw[<-z];exact List.mem_singleton.mp q)
   rw[ai bD];rcases List.mem_append.mp hb with z|z
   ·rw[ai (bp b z)];exact s24 _ _ (hem b z)
   ·rw[List.mem_singleton.mp z];exact ah
 ·left;have ei:i=ds.length:=by omega
  subst ei;refine⟨(wk H' O' ds.length S'.env.all sH).2 rfl,?_⟩;refine hk.nx _ _ _ _ (S'.setL (by rw[I.len];exact(List.getElem?_eq_some_iff.mp hi').1) hn (bs:=bs) ⟨_,mF hl hem,.inl ⟨rfl,hacc⟩⟩ nd hbs) hF
end TG
namespace TG
open PySem PySem.Spec L2
variable[aq]
theorem bx.putN{K:KZ}{Hb H:Hp}{Ob O:au}{ρ:ak}{σ:St}(S:bx K Hb Ob O H ρ σ){i c:Nat}{xs:List D}{x:D}(hi:ρ[i]?=some (some (.nest (.lst xs))))(hc:xs[c]?=some x):
  ∃(a:Ma)(bs:au)(l:Ma),σ[i]?=some (some (.ref a))/\H a=some (.lst (bs.map .ref))/\bs[c]?=some l/\l∈O/\bT K H O l x/\∀(H2:Hp)(o':HO)(x':D),aI H H2->kF o'->bT K (upd H2 l o') O l x'->bx K Hb Ob O (upd H2 l o') (ρ.set i (some (.nest (.lst (xs.set c x'))))) σ:=by
 obtain⟨a,bs,ha,⟨xs',hO,hat⟩,nd,hbs,one⟩:=S.nst i _ hi;obtain⟨rfl,hHa⟩:xs'=xs/\H a=some (.lst (bs.map .ref)):=by
  rcases hat with⟨e,q⟩|⟨_,e,_⟩|⟨e,_⟩
  ·cases e;exact⟨rfl,q⟩
  ·cases e
  ·cases e
 obtain⟨na,nb⟩:=List.nodup_cons.mp nd;obtain⟨aO,aHb,aOb,aS⟩:=hbs a IB;obtain⟨l,hl,hat,new⟩:=qu hO nb hc;have lb:=IX hl;have la:l≠a:=λz=>na (by rw[<-z];exact lb);obtain⟨lO,lHb,lOb,lS⟩:=hbs l (IC _ lb);refine⟨a,bs,l,ha,hHa,hl,lO,hat,λH2 o' x' s2 mo ow=>?_⟩;have sm5:aI (hid H O) (hid (upd H2 l o') O):=(aM s2).trans (dI lO);refine S.setN hi (λc hc=>hc) sm5 ⟨λc u h=>?_,S.base.sub,S.base.new⟩ ((S.env.all.same s2).upd lO mo) (λj xs c w1 w2=>?_) ?_
 ·have cl:c≠l:=λz=>by rw[z,lHb]at h;cases h
  rw[ai cl];exact s2 _ _ (S.base.same c u h)
 ·obtain⟨c',q1,q2,q3⟩:=S.env.own j xs w1;rw[w2]at q1;cases q1;obtain⟨o,ho⟩:=q3.some;have cl:c≠l:=λz=>lS j xs w1 (by rw[<-z];exact w2);rw[ho,ai cl];exact(s2 _ _ ho).symm
 ·have own:∀(j:Nat) d' d2,(ρ.set i (some (.nest d2)))[j]?=some (some (.own d'))->ρ[j]?=some (some (.own d')):=λj d' d2 w=>by
   rcases av w with⟨_,z⟩|⟨_,z⟩
   ·cases z
   ·exact z
  refine⟨a,bs,ha,⟨_,new _ _ x' (λc hc ne x hx=>hx.mono ?_ sm5) ow,.inl ⟨rfl,?_⟩⟩,nd,λc hc=>?_,λj d' w=>?_⟩
  ·obtain⟨o,ho⟩:=hx.some;rw[ai ne,ho,s2 _ _ ho]
  ·rw[ai (Ne.symm la)];exact s2 _ _ hHa
  ·obtain⟨w1,w2,w3,w4⟩:=hbs c hc;exact⟨w1,w2,w3,λj d' w=>w4 j d' (own j d' _ w)⟩
  ·rcases av w with⟨hj,_⟩|⟨_,z⟩
   ·exact hj
   ·exact one j d' z
noncomputable def gG(xs:List D)(c k v:D):iU:=match c with
 |.int (.ofNat c)=>(match xs[c]? with
  |some (.dct ks ds)=>(gR ks ds k v).map λal=>xs.set c (az al)
  |_=>none)
 |_=>none
theorem qR{xs xs':List D}{c k v:D}(h:gG xs c k v=some xs'):∃c' ks ds al,c=.int (Int.ofNat c')/\xs[c']?=some (.dct ks ds)/\gR ks ds k v=some al/\xs'=xs.set c' (az al):=by
 unfold gG at h;split at h
 ·split at h
  ·rename_i e;obtain⟨al,q,z⟩:=Option.map_eq_some_iff.mp h;exact⟨_,_,_,al,rfl,e,q,z.symm⟩
  ·cases h
 ·cases h
noncomputable def gh(i:Nat)(u:List D->D->D->D->iU)(fe fk fv:FX):bG:=λk ρ=>match ρ[i]? with
 |some (some (.nest (.lst xs)))=>(pM (fv ρ)).bind λv=>(pM (fe ρ)).bind λc=>(pM (fk ρ)).bind λq=>(rO (u xs c q v)).bind λys=>k.nx (ρ.set i (some (.nest (.lst ys))))
 |_=>un
theorem lT{i:Nat}{u:List D->D->D->D->iU}{fe fk fv:FX}{k:Ks}{ρ:ak}{r:R D}(h:gh i u fe fk fv k ρ=r)(hr:r≠un):∃xs v c q ys,ρ[i]?=some (some (.nest (.lst xs)))/\fv ρ=.ok v/\fe ρ=.ok c/\fk ρ=.ok q/\u xs c q v=some ys/\k.nx (ρ.set i (some (.nest (.lst ys))))=r:=by
 unfold gh at h;split at h
 ·rename_i xs hi;cases e1:fv ρ with
  |error z=>rw[e1]at h;exact absurd h.symm hr
  |ok v=>
  cases e2:fe ρ with
  |error z=>rw[e1,e2]at h;exact absurd h.symm hr
  |ok c=>
  cases e3:fk ρ with
  |error z=>rw[e1,e2,e3]at h;exact absurd h.symm hr
  |ok q=>
  rw[e1,e2,e3]at h;have h:(rO (u xs c q v)).bind (λys=>k.nx (ρ.set i (some (.nest (.lst ys)))))=r:=h;cases e4:u xs c q v with
  |none=>rw[e4]at h;exact absurd h.symm hr
  |some ys=>rw[e4]at h;exact⟨xs,v,c,q,ys,hi,rfl,rfl,rfl,e4,h⟩
 ·exact absurd h.symm hr
end TG
namespace TG
open PySem PySem.Spec PySem.Calls L2
section
variable{prog:Mh}{w:Mg}{K:Type}[DecidableEq K]{knd:HeapKind prog w K}{A:Mo}{E:aD}{s:Mf}{d a:Ma}{k:K}{xs:List (K×Ma×L8)}
noncomputable def rT(xs:List (K×Ma×L8))(k:K):List (K×Ma×L8):=xs.filter λx=>decide (x.1≠k)
theorem CO:∀{xs:List (K×Ma×L8)}{k:K}{j:Nat}{p:Ma×L8},(xs.map (·.1)).Nodup->xs[j]?=some (k,p)->xs.eraseIdx j=rT xs k:=by
 intro xs
 induction xs with
 |nil=>intro k j p _ h;simp at h
 |cons x xs ih=>
  intro k j p hn h;rw[Jg,List.nodup_cons]at hn;cases j with
  |zero=>
   cases(show x=(k,p)from Option.some.inj h);unfold rT;rw[List.eraseIdx_cons_zero,JY (by simp),List.filter_eq_self.mpr];intro y hy;exact decide_eq_true λz=>hn.1 (List.mem_map.mpr ⟨y,hy,z⟩)
  |succ j=>
   have hj:xs[j]?=some (k,p):=h;have hx:x.1≠k:=λz=>hn.1 (List.mem_map.mpr ⟨(k,p),IX hj,z.symm⟩);unfold rT;rw[List.eraseIdx_cons_succ,JX (p:=λy:K×Ma×L8=>decide (y.1≠k)) (decide_eq_true hx),ih hn.2 hj];rfl
theorem yP{Q:Option MZ->cF}(hu:knd.room A)(hkey:knd.is s.heap k a)(hm:s.heap.DictOfH knd d xs)(hsz:xs.length<=Mk)
  (h1:∀p,atKey xs k=some p->∀h',h'.DictOfH knd d (rT xs k)->Lx d s.heap h'->Q (some (entryOfKey knd (k,p))) {s with heap:=h',toks:=s.toks+knd.draws k})
  (h2:atKey xs k=none->Q none {s with toks:=s.toks+knd.draws k}):
  Mr `g A (Builtin.Dict.takeOut d (.ref a)) Q E s:=by
 obtain⟨o,es,ep,ho,hc,hd,he,his,hn⟩:=hm;unfold Builtin.Dict.takeOut
 try with_reducible refine MQ ?_
 refine My (knd.pyHash hu hkey (My (wpAny_dictFind_heap (s:={s with toks:=s.toks+knd.draws k}) hu hkey ho hd he his hn (λhno=>?_) λj p hj=>?_)))
 ·exact Mx (h2 (atKey_none_of_get hno))
 ·refine My (Nw (s:={s with toks:=s.toks+knd.draws k}) ho hd ?_);rw[entry_at he j,hj];refine My (wpAny_updateDictKeys (hz:=by have e:=size_of_entries he;omega) (s:={s with toks:=s.toks+knd.draws k}) ho hd (Mx (h1 p (atKey_of_get hn hj) _ ⟨_,_,ep+1,LJ _ ho (Obj.isFreed_of_dict (Obj.data_mapDictKeys hd _)),hc.mapDictKeys _,Obj.data_mapDictKeys hd _,?_,?_,?_⟩ (Heap.SameBut.update ..))))
  ·obtain⟨l⟩:=es;have he:l=xs.map (entryOfKey knd):=he;simp only[List.eraseIdxIfInBounds_toArray];rw[he,<-CO hn hj,KL,KL,JG,List.map_take,List.map_drop]
  ·intro x hx;exact knd.keeps (his x (List.mem_filter.mp hx).1) ho hd (Heap.SameBut.update ..)
  ·exact hn.sublist (List.Sublist.map _ KN)
theorem uZ{x:L8}{Q:aD}(hu:knd.room A.in1)(hkey:knd.is s.heap k a)(hm:s.heap.DictOfH knd d xs)(hsm:(d==sysModules)=false)(hsz:xs.length<=Mk)
  (h1:∀p,atKey xs k=some p->∀h' t',h'.DictOfH knd d (rT xs k)->Lx d s.heap h'->Q p.2 {s with heap:=h',toks:=t'})
  (h2:atKey xs k=none->∀t',Q x {s with toks:=t'}):
  Mr `g A (call (.builtin "dict.pop") [.ref d,.ref a,x]) Q E s:=by
 refine MS PySem.F.slot_dict_pop hm.typeIs PySem.F.entry_dict_pop ?_ (PySem.F.args_dict_pop_3 _ _ _);unfold Builtin.«dict.pop»;refine My ?_;unfold Builtin.Dict.keyAndDefault;refine My (Nv hm.typeIs ?_);show Mr _ _ (pure (d,Value.ref a,some x)) _ _ s;refine Mx ?_;have hp:(keyPart (Value.ref a)).isSome=false:=rfl;simp only[hp,Jt,if_false];obtain⟨o,es,ep,ho,hc,hd,he,his,hn⟩:=id hm;refine My (Nw ho hd (My (Mx ?_)));cases hem:es.isEmpty with
 |true=>
  have:xs=[]:=by
   obtain⟨l⟩:=es
   have:l=[]:=(by simpa using hem);subst this;cases xs with
   |nil=>rfl
   |cons y ys=>cases he
  subst this;rw[if_pos rfl];refine My (M6 (My (Mx ?_)));simp only[KO,if_true];refine My (NC hsm ?_);exact My (M6 (Mx ⟨_,rfl,h2 rfl _⟩))
 |false=>
  rw[if_neg II];refine My (yP hu hkey hm hsz (λp hp h' hm' hs'=>?_) λhno=>?_)
  ·simp only[Option.isNone_some,Jt,if_false];exact My (wpAny_letGo (Mx ⟨_,rfl,h1 p hp _ _ hm' hs'⟩))
  ·simp only[KO,if_true];refine My (NC hsm ?_);exact My (M6 (Mx ⟨_,rfl,h2 hno _⟩))
end
theorem KT.out{H:Hp}{kvs:List (List Key×V)}{xs:List (List Key×Ma×L8)}(r:KT H kvs xs)(k:aE):KT H (je kvs k) (rT xs k):=by
 induction r with
 |nil=>exact .nil
 |@cons p q ps qs h t ih=>
  unfold je rT;by_cases e:p.1=k
  ·rw[JY (by simp[e]),JY (by simp[<-h.1,e])];exact ih
  ·rw[JX (by simp[e]),JX (by simp[<-h.1,e])];exact .cons h ih
theorem xc{X:Cx}{pins:aG}{σ:St}{H:Hp}{s:Mf}{a b:Ma}{k:aE}{kvs:List (List Key×V)}{v:V}{r:L8}{A:Mo}{E:aD}{Q:aD}(hu:A.units+1<MF)(I:`h)(e:H a=some (.dT kvs))(eb:H b=some (.tup (k.map kV)))(rv:RelV v r)
  (h:∀v' w' s',(dJ kvs k).getD v=v'->Inv X pins σ (upd H a (.dT (je kvs k))) s'->RelV v' w'->Q w' s'):
  Mr `i A (call (.builtin "dict.pop") [.ref a,.ref b,r]) Q E s:=by
 obtain⟨z,hd,xs,rel,dd⟩:=BX I.hok e;have hz:xs.length<=Mk:=by rw[<-Paired.length rel];exact z
 have hl2:(je kvs k).length<=Mk:=Iy (KP _ _) z;have q:=rel.val k;refine uZ (M0 hu) (eI I.hok eb) dd hd hz (λp hp h' t' dd' hs=>?_) λhn t'=>?_
 ·rw[hp]at q;obtain⟨v',ev,rv'⟩:=u6 q;refine h v' _ _ (by rw[ev];rfl) ?_ rv';obtain⟨q,es,ep,hq,g2,g3,g4,_,g5⟩:=dd';refine iJ I (by rw[e];exact True.intro) hs ⟨q,hq⟩ ⟨hl2,hd,_,(KT.out rel k).keeps λc ys ec=>?_,q,es,ep,hq,g2,g3,g4,g5⟩;rw[ai (y8 ec e (λz=>nomatch z))];exact ec
 ·rw[hn]at q;have ev:=vX q;refine h v r _ (by rw[ev];rfl) ?_ rv
  have:je kvs k=kvs:=List.filter_eq_self.mpr λy hy=>decide_eq_true λz=>by
   have:=List.find?_eq_none.mp (Option.map_eq_none_iff.mp ev) y hy
   simp[z]at this
  rw[this,show upd H a (.dT kvs)=H from funext λc=>if hc:c=a then by rw[hc,e,ah]else by rw[ai hc]];exact I.tok _
variable[aq]
noncomputable def ER:V->aB->Hp->VK->Prop:=λx vs H Q=>∃a b k kvs v,x=.ref a/\vs=[.ref b,v]/\H b=some (.tup (k.map kV))/\(H a=some (.dT kvs)\/(H a=some (.dK [])/\kvs=[]))/\Q ((dJ kvs k).getD v) (upd H a (.dT (je kvs k)))
theorem Ao{X:Cx}(hu:X.A.units+64<MF):Hh X "dict.pop" ER:=by
 intro pins s σ H x vs v us Q I rx rv h;obtain⟨a,b,k,kvs,v',rfl,rfl,hb,ha,h1⟩:=h;cases rx;obtain⟨u1,u,rfl,r1,ru⟩:=rv.two;obtain rfl:u1=Value.ref b:=r1;rcases ha with ha|⟨ha,rfl⟩
 ·exact xc `o I ha hb ru λv1 w1 s1 e I1 r=>⟨v1,_,I1,r,by rw[<-e];exact h1⟩
 ·have ne:b≠a:=λz=>by rw[z,ha]at hb;cases hb
  refine xc `o (pE I ha) ah (by rw[ai ne];exact hb) ru λv1 w1 s1 e I1 r=>⟨v1,_,by rw[mC]at I1;exact I1,r,by rw[<-e];exact h1⟩
end TG
namespace TG
open PySem PySem.Spec L2
variable[aq]
noncomputable def g6(al:bu)(q:aE):bu:=al.filter λp=>decide (p.1≠q)
theorem wU{K:KZ}{H:Hp}(q:aE):∀{kvs:List (List Key×V)}{al:bu},kvs.map (·.1)=al.map (·.1)->ax K H (al.map (·.2)) (kvs.map (·.2))->(je kvs q).map (·.1)=(g6 al q).map (·.1)/\ax K H ((g6 al q).map (·.2)) ((je kvs q).map (·.2)):=by
 intro kvs
 induction kvs with
 |nil=>
  intro al e h;cases al with
  |nil=>exact⟨rfl,bB.mpr rfl⟩
  |cons=>cases e
 |cons p kvs ih=>
  intro al e h;cases al with
  |nil=>cases e
  |cons x al=>
   rw[Jg,Jg]at e h;injection e with e1 e2;obtain⟨v,vs,q1,q2,q3⟩:=aK.mp h;injection q1 with q1 q4;subst q1 q4;obtain⟨i1,i2⟩:=ih e2 q3;unfold je g6 at i1 i2 ⊢;by_cases z:x.1=q
   ·rw[JY (by simp[e1,z]),JY (by simp[z])];exact⟨i1,i2⟩
   ·rw[JX (by simp[e1,z]),JX (by simp[z]),Jg,Jg,Jg,Jg,i1,e1];exact⟨rfl,aK.mpr ⟨_,_,rfl,q2,i2⟩⟩
noncomputable def gP(xs:List D)(c k v:D):iU:=match c with
 |.int (.ofNat c)=>(match xs[c]? with
  |some (.dct ks ds)=>(dS ks ds).bind λal=>(cy k).map λq=>xs.set c (az (g6 al q))
  |_=>none)
 |_=>none
theorem qH{xs xs':List D}{c k v:D}(h:gP xs c k v=some xs'):∃c' al q,c=.int (Int.ofNat c')/\xs[c']?=some (az al)/\k=.tup (q.map aJ)/\xs'=xs.set c' (az (g6 al q)):=by
 unfold gP at h;split at h
 ·split at h
  ·rename_i e;obtain⟨al,q,z⟩:=Option.bind_eq_some_iff.mp h;obtain⟨k',q2,z2⟩:=Option.map_eq_some_iff.mp z;obtain⟨e1,e2⟩:=dG q;refine⟨_,al,k',rfl,?_,dE q2,z2.symm⟩;rw[e,e1,e2]
  ·cases h
 ·cases h
end TG
namespace TG
open PySem PySem.Spec L2
variable[aq]
section
variable{X:Cx}{o e:Mb}{apos cpos:Pos}
theorem Be{pins:aG}{σ:St}{H:Hp}{s:Mf}{a:Ma}{y:V}{u:L8}{w:Option V}{A:Mo}{E:aD}{Q:aD}(hu:A.units+1<MF)(I:L2.Inv X pins σ H s)(g:t7 H a y w)(ry:RelV y u)(h:∀w' s',L2.Inv X pins σ H s'->RelV (w.getD .non) w'->Q w' s'):
  Mr `i A (call (.builtin "dict.get") [.ref a,u]) Q E s:=by
 rcases g with g|⟨h1,rfl,b,k,rfl,hb⟩
 ·exact yk hu I g ry h
 ·have ne:b≠a:=λz=>by rw[z,h1]at hb;cases hb
  refine yk (o:=dJ [] k) hu (pE I h1) (ph.t ah (by rw[ai ne];exact hb)) ry λw' s' I4 rw'=>h w' s' ?_ rw';have I5:=A7 I4 ah;rw[jv h1]at I5;exact I5
noncomputable def zJ(td ty:TE):TE:=λσ H Q=>td σ H λx H1=>∃a,x=.ref a/\Hr H1 a/\ty σ H1 λy H2=>∃o,t7 H2 a y o/\Q (o.getD .non) H2
theorem uG{td ty:TE}(hu:X.A.units+1<MF)(ho:PE X o td)(he:PE X e ty)(m:M1 X o "get" apos e cpos):PE X (.Call (.Attribute o "get" apos) [e] [] cpos) (zJ td ty):=by
 intro pins s σ H Q I h;refine wpAny_Call_method m.base m.few m.line L5 LY L6 (cg (ho pins s σ H _ I h) λu s1 zq=>zq.elim λx zq=>zq.elim λH1 zq=>zq.elim λI1 zq=>zq.elim λrx zq=>zq.elim λa zq=>zq.elim λex zq=>zq.elim λd q1=>?_);subst ex;obtain rfl:u=Value.ref a:=rx;obtain⟨t1,t2,_⟩:=wZ I1 d;refine⟨t1,t2,?_⟩;rw[m.trees];refine Calls.callWith_builtin rfl (Calls.evalArgs_plain (Calls.spliced_cons (cg (he pins s1 σ H1 _ I1 q1) λiv s2 zq=>zq.elim λy zq=>zq.elim λH2 zq=>zq.elim λI2 zq=>zq.elim λry zq=>zq.elim λov zq=>zq.elim λg q2=>Calls.spliced_nil ?_)));exact Be hu I2 g ry λw' s4 I4 rw'=>⟨_,H2,I4,rw',q2⟩
noncomputable def y9(ks ds:List D)(k:D):aU:=(oN ks ds).bind λal=>(cy k).map λq=>(eB al q).getD .non
noncomputable def cJ(fo fk:FX):FX:=λρ=>(fo ρ).bind λdd=>match dd with
 |.dct ks ds=>(fk ρ).bind λk=>rO (y9 ks ds k)
 |_=>un
end
noncomputable def iI(x y:D):aU:=match y with
 |.dct ks ds=>(oN ks ds).bind λal=>(cy x).map λq=>.bl (!(al.any λp=>decide (p.1=q)))
 |_=>none
theorem ni{X:Cx}(hu:X.A.units+64<MF):jj X (MB .NotIn) (rD X.K iI):=by
 rintro pins s σ H x y u v Q I rx ry ⟨O,a,b,d,hO,ha,hb,hg,q⟩;cases b with
 |dct ks ds=>
  obtain⟨al,hk,hg⟩:=Option.bind_eq_some_iff.mp (show(oN ks ds).bind (λal=>(cy a).map λq=>D.bl (!(al.any λp=>decide (p.1=q))))=some d from hg);obtain⟨qk,ht,rfl⟩:=Option.map_eq_some_iff.mp hg;rw[dE ht]at ha;obtain⟨p,ey,hh⟩:=jk hb hk;obtain⟨c,ws,ex,g1,g2⟩:=bh.mp ha;rw[b6 g2]at g1;have g1':=(aj H O) _ _ g1;subst ex ey;cases ry;rcases hh with⟨kvs,k1,k2,k3⟩|⟨k1,rfl⟩
  ·have hv:=qO k2 qk;rw[Kx]at hv;refine tM `o I (.inr ⟨kvs,qk,c,pK k1,rfl,g1',rfl⟩) rx λs3 I3=>⟨.bl (!(dJ kvs qk).isSome),H,I3,rfl,q _ H (aI.refl H) (gC.mpr ?_)⟩
   rw[hv];rfl
  ·have k1':=(aj H O) _ _ k1;have ne:c≠p:=λz=>by rw[z,k1']at g1';cases g1'
   refine tM (o:=dJ [] qk) `o (pE I k1') (ph.t ah (by rw[ai ne];exact g1')) rx λs3 I4=>⟨.bl true,H,?_,rfl,q _ H (aI.refl H) (gC.mpr rfl)⟩
   have I5:=A7 I4 ah;rw[jv k1']at I5;exact I5
 |_=>cases hg
end TG
namespace TG
open PySem PySem.Spec L2
variable[aq]
theorem bx.frzB{K:KZ}{Hb:Hp}{Ob O:au}{H H':Hp}{ρ:ak}{σ:St}(E:bx K Hb Ob O H ρ σ){i:Nat}{d d':D}(hd:ρ[i]?=some (some (.nest d))){a:Ma}{bs:au}(h1:σ[i]?=some (some (.ref a)))(h4:∀b∈a::bs,b∈O/\Hb b=none/\b∉Ob/\∀(j:Nat) d',ρ[j]?=some (some (.own d'))->σ[j]?≠some (some (.ref b)))(h5:∀(j:Nat) d',ρ[j]?=some (some (.nest d'))->j=i)
  (hH:∀b,b∉a::bs->H' b=H b) (tab:aq.tab H') (dn:aI (hid H O) (hid H' (O.filter λb=>decide (b∉a::bs)))->(∀b∈a::bs,b∉O.filter λb=>decide (b∉a::bs))->bv K (hid H' (O.filter λb=>decide (b∉a::bs))) d' (.ref a)):bx K Hb Ob (O.filter λb=>decide (b∉a::bs)) H' (TG.setV i d' ρ) σ:=by
 have sub:∀b∈O.filter (λb=>decide (b∉a::bs)),b∈O:=λb hb=>(List.mem_filter.mp hb).1;have na:∀b∈a::bs,b∉O.filter λb=>decide (b∉a::bs):=λb hb z=>(of_decide_eq_true (List.mem_filter.mp z).2) hb;have s:aI (hid H O) (hid H' (O.filter λb=>decide (b∉a::bs))):=λb u e=>by
  unfold hid at e ⊢;by_cases hb:b∈O
  ·rw[if_pos hb]at e;cases e
  ·rw[if_neg hb]at e;rw[if_neg λz=>hb (sub b z),hH b λz=>hb (h4 b z).1];exact e
 have bk:∀(l:Nat) x,(TG.setV i d' ρ)[l]?=some (some x)->(∀d,x≠.val d)->ρ[l]?=some (some x):=λl x e nv=>by
  rcases av e with⟨_,q⟩|⟨_,q⟩
  ·cases q;exact absurd rfl (nv _)
  ·exact q
 refine⟨⟨λj d1 e=>?_,λj xs e=>?_,λj l xs ys b e1 e2 e3 e4=>E.env.one j l xs ys b (bk j _ e1 (λ_ z=>nomatch z)) (bk l _ e2 (λ_ z=>nomatch z)) e3 e4,⟨tab,λb hb=>?_⟩⟩,⟨λb u e=>?_,λb hb=>?_,λb hb=>E.base.new b (sub b hb)⟩,λj xs b e1 e2=>E.mine j xs b (bk j _ e1 (λ_ z=>nomatch z)) e2,λj dn e=>?_⟩
 ·rcases av e with⟨hj,q⟩|⟨ne,q⟩
  ·cases q;rw[hj];exact⟨.ref a,h1,dn s na⟩
  ·obtain⟨w,q1,q2⟩:=E.env.val j d1 q;exact⟨w,q1,q2.mono s⟩
 ·obtain⟨b,q1,q2,q3⟩:=E.env.own j xs (bk j _ e (λ_ z=>nomatch z));have nb:b∉a::bs:=λz=>(h4 b z).2.2.2 j xs (bk j _ e (λ_ z=>nomatch z)) q1;exact⟨b,q1,List.mem_filter.mpr ⟨q2,decide_eq_true nb⟩,q3.mono (hH b nb).symm s⟩
 ·rw[hH b (of_decide_eq_true (List.mem_filter.mp hb).2)];exact E.env.all.2 b (sub b hb)
 ·rw[hH b λz=>by rw[(h4 b z).2.1]at e;cases e];exact E.base.same b u e
 ·exact List.mem_filter.mpr ⟨E.base.sub b hb,decide_eq_true λz=>(h4 b z).2.2.1 hb⟩
 ·have q:=bk j _ e (λ_ z=>nomatch z);have hj:=h5 j dn q;subst hj;rcases av e with⟨_,q⟩|⟨ne,_⟩
  ·cases q
  ·exact absurd rfl ne
noncomputable def nq:List D->Option (List bu)
 |[]=>some []
 |.dct ks ds::xs=>(dS ks ds).bind λal=>(nq xs).map (al::·)
 |_::_=>none
theorem qV:∀{xs:List D}{as:List bu},nq xs=some as->xs=as.map az
 |[],as,h=>by cases h;rfl
 |.dct ks ds::xs,as,h=>by
  obtain⟨al,e1,h⟩:=Option.bind_eq_some_iff.mp (show((dS ks ds).bind λal=>(nq xs).map (al::·))=some as from h);obtain⟨r,e2,rfl⟩:=Option.map_eq_some_iff.mp h;obtain⟨f1,f2⟩:=dG e1;rw[qV e2,f1,f2];rfl
 |.non::_,_,h=>by cases h
 |.bl _::_,_,h=>by cases h
 |.int _::_,_,h=>by cases h
 |.str _::_,_,h=>by cases h
 |.lst _::_,_,h=>by cases h
 |.tup _::_,_,h=>by cases h
 |.obj ..::_,_,h=>by cases h
 |.exc ..::_,_,h=>by cases h
noncomputable def C9(K:KZ)(Hd H:Hp):au->List (bu)->Prop
 |[],[]=>True
 |b::bs,al::as=>(∃o kvs,H b=some (.frz o (.dT kvs))/\kvs.map (·.1)=al.map (·.1)/\ax K Hd (al.map (·.2)) (kvs.map (·.2)))/\C9 K Hd H bs as
 |_,_=>False
theorem C9.den{K:KZ}{Hd H':Hp}{O':au}(s:aI Hd (hid H' O')):∀{bs:au}{as:List bu},C9 K Hd H' bs as->(∀b∈bs,b∉O')->ax K (hid H' O') (as.map bE) (bs.map .ref)
 |[],[],_,_=>bB.mpr rfl
 |b::bs,al::as,h,n=>by
  obtain⟨⟨o,kvs,e1,e2,e3⟩,h2⟩:=h;refine aK.mpr ⟨.ref b,_,rfl,Gm.mpr ⟨b,_,rfl,e3.mono s,.inr (.inr ⟨kvs,o,by rw[cQ (n b IB)];exact e1,by rw[kz e2],rfl⟩)⟩,C9.den s h2 λb hb=>n b (IC _ hb)⟩
 |[],_::_,h,_=>h.elim
 |_::_,[],h,_=>h.elim
theorem tG{X:Cx}{pins:aG}{σ:St}{s:Mf}{H:Hp}{O:au}:∀{bs:au}{as:List bu}{H0:Hp},lK X.K H O bs (as.map az)->bs.Nodup->(∀b∈bs,H0 b=H b)->(∀b∈bs,b∈O)->bQ H O->Inv X pins σ H0 s->aq.tab H0->∃H1,Inv X pins σ H1 s/\aq.tab H1/\(∀b,b∉bs->H1 b=H0 b)/\C9 X.K (hid H O) H1 bs as
 |[],[],H0,_,_,_,_,_,I,t=>⟨H0,I,t,λ_ _=>rfl,trivial⟩
 |b::bs,al::as,H0,h,nd,e0,hO,ok,I,t=>by
  obtain⟨n1,n2⟩:=List.nodup_cons.mp nd;have eb:=e0 b IB;obtain⟨u,m1,m2⟩:=ok.2 b (hO b IB);obtain⟨H1,o,kvs,I1,q1,q2,q3,q4⟩:∃H1 o kvs,Inv X pins σ H1 s/\H1 b=some (.frz o (.dT kvs))/\kvs.map (·.1)=al.map (·.1)/\ax X.K (hid H O) (al.map (·.2)) (kvs.map (·.2))/\H1=upd H0 b (.frz o (.dT kvs)):=by
   rcases zh h.1 with⟨kvs,k1,k2,k3⟩|⟨k1,rfl⟩
   ·obtain⟨o,I1⟩:=BP I (eb.trans k1);exact⟨_,o,kvs,I1,ah,k2,k3,rfl⟩
   ·obtain⟨o,I1⟩:=BP (pE I (eb.trans k1)) ah;rw[mC]at I1;exact⟨_,o,[],I1,ah,rfl,bB.mpr rfl,rfl⟩
  have t1:aq.tab H1:=by rw[q4];exact aq.own t (eb.trans m1) m2
  have k1:∀c,c≠b->H1 c=H0 c:=λc hc=>by rw[q4,ai hc]
  obtain⟨H2,I2,t2,k2,f2⟩:=tG (as:=as) h.2 n2 (H0:=H1) (λc hc=>(k1 c λz=>n1 (by rw[<-z];exact hc)).trans (e0 c (IC _ hc))) (λc hc=>hO c (IC _ hc)) ok I1 t1;exact⟨H2,I2,t2,λc hc=>(k2 c λz=>hc (IC _ z)).trans (k1 c λz=>hc (by rw[z];exact IB)),⟨o,kvs,(k2 b n1).trans q1,q2,q3⟩,f2⟩
 |[],_::_,_,h,_,_,_,_,_,_=>h.elim
 |_::_,[],_,h,_,_,_,_,_,_=>h.elim
noncomputable def we(i:Nat)(ρ:ak):ak:=match ρ[i]? with
 |some (some (.nest (.lst xs)))=>match nq xs with
  |some as=>setV i (.lst (as.map bE)) ρ
  |none=>ρ
 |_=>ρ
noncomputable def j8(i:Nat)(F:bG):bG:=λk ρ=>F k (we i ρ)
end TG
namespace TG
open PySem PySem.Spec L2
variable[aq]
noncomputable def Gu(a:Ma)(o:Obj)(kvs:List (List Key×V)):It:=
  ⟨fun i H=>H a=some (.frz o (.dT kvs))/\i < kvs.length,
   λi H v H'=>∃b q w,v=.ref b/\H'=H/\kvs[i]?=some (q,w)/\H b=some (.tup (q.map kV)),
   λi H=>H a=some (.frz o (.dT kvs))/\i=kvs.length⟩
theorem uK{P:Mh}{w:Mg}{K:KZ}{tg:Mb}{a it:Ma}{o:Obj}{es:Array MZ}{ep:Nat}{kvs:List (List Key×V)}(hda:o.data=.dict es ep):Turn P w K tg (Gu a o kvs) [it] it (λi h=>h.IsKeyIter it a i es.size ep)where
 mem:=by simp
 obj:=λi h hz c hc=>by
  rw[List.mem_singleton.mp hc];obtain⟨o,e,_,d⟩:=hz;exact⟨o,e,λv q=>by rw[d]at q;cases q⟩
 keep:=λi h h' st k=>st.at λo e=>k it (by simp) o e
 item:=by
  rintro X hP hw hK hc i pins s σ H E I hf hit ⟨ha,hi⟩;subst hP hw hK;obtain⟨ho,hx,_,es2,ep2,xs,h3,rel,h4⟩:=rY I ha;rw[hda]at h3;cases h3;have hl:es.size=xs.length:=by rw[<-Array.length_toList,h4,IZ]
  have hkl:kvs.length=xs.length:=Paired.length rel;have hlt:i<es.size:=by omega
  obtain⟨x,ex,f1,f2,f3⟩:=mw rel (i:=i) (x:=kvs[i]) (by simp[hi]);have ee:es[i]=entryOfKey (tupleKind (aQ X.prog X.w)) x:=by
   have:es.toList[i]?=some (entryOfKey (tupleKind (aQ X.prog X.w)) x):=(by rw[h4,IV,ex];rfl);rw[Array.getElem?_toList,Array.getElem?_eq_getElem hlt]at this;exact Option.some.inj this
  obtain⟨g0,g1,g2,g3,g4,g5⟩:=hf it (by simp);refine om hit ho hda hlt λh' st' sb=>?_;have I1:Inv X pins σ H {s with heap:=h'}:=I.turned (t':=s.toks) (λb o hb e=>(sb.2 b hb).trans e) g0 g1 g3 g4 g5;obtain⟨oi,e,c,d⟩:=id st';exact⟨_,rfl,sU (s:={s with heap:=h'}) e c d (by decide) ⟨.ref x.2.1,H,I1,by rw[ee];rfl,⟨x.2.1,kvs[i].1,kvs[i].2,rfl,rfl,by simp[hi],f2⟩,st',λb hb=>(hf b hb).1⟩⟩
 done:=by
  rintro X hP hw hK hc i pins s σ H E I hf hit ⟨ha,hi⟩;subst hP hw hK;obtain⟨ho,hx,_,es2,ep2,xs,h3,rel,h4⟩:=rY I ha;rw[hda]at h3;cases h3;have hl:es.size=xs.length:=by rw[<-Array.length_toList,h4,IZ]
  have hkl:kvs.length=xs.length:=Paired.length rel;exact qj (I.ok.hd hc) hit ho hda `o λh' eb=>⟨rfl,Inv.turned0 (ch:=[it]) I hf λc u hc e=>eb c u (by simpa using hc) e⟩
 self:=λ_ _ _ _ _ st h=>wpAny_pyIter_keyiter st h
theorem rq{K:KZ}{Hd:Hp}{a:Ma}{o:Obj}{kvs:List (List Key×V)}{al:bu}(h:Hd a=some (.frz o (.dT kvs)))(e1:kvs.map (·.1)=al.map (·.1)):Walk K Hd (Gu a o kvs) (encK al):=λHn O' i hO sm=>by
 have s':aI Hd Hn:=sm.trans (aj Hn O');have hl:kvs.length=al.length:=by have:=congrArg List.length e1;simpa using this
 refine⟨λd e=>?_,λhl'=>⟨s' _ _ h,by rw[hl',IZ,hl]⟩⟩;rw[IV]at e;cases ep:al[i]? with
 |none=>rw[ep]at e;cases e
 |some p=>
  rw[ep]at e;cases e;have hi:i<al.length:=(List.getElem?_eq_some_iff.mp ep).1;refine⟨⟨s' _ _ h,by omega⟩,λx H2 zq=>zq.elim λb zq=>zq.elim λq zq=>zq.elim λw zq=>zq.elim λex zq=>zq.elim λeH zq=>zq.elim λek hb=>?_⟩;subst ex eH;have k1:q=p.1:=by
   have:=congrArg (λl=>l[i]?) e1
   simp only[IV,ek,ep]at this;exact Option.some.inj this
  subst k1;have bO:b∉O':=λz=>by
   obtain⟨u,q1,q2⟩:=hO.2 b z;rw[hb]at q1;cases q1;exact q2
  exact⟨aI.refl _,bh.mpr ⟨b,_,rfl,by rw[cQ bO];exact hb,k6 p.1⟩⟩
noncomputable def sR:D->iU
 |.dct (.non::ks) ds=>(dS ks ds).map λal=>encK al
 |_=>none
noncomputable def jl(f:FX):aN:=λρ=>(f ρ).bind λd=>rO (sR d)
end TG
namespace TG
open PySem PySem.Spec L2
noncomputable def eK:List D->aU
 |[.dct ks ds]=>(oN ks ds).bind λal=>kM (encK al)
 |_=>none
variable[aq]
section
variable{X:Cx}
theorem ww{K:KZ}{H:Hp}{O:au}(hO:bQ H O):∀{al:bu}{us:aF},us.length=al.length->(∀(j:Nat)(u:L8),us[j]?=some u->∃b q,u=.ref b/\al[j]?.map (·.1)=some q/\H b=some (.tup (q.map kV)))->∃ws:aB,Vals ws us/\ax K (hid H O) (encK al) ws:=by
 intro al us
 induction us generalizing al with
 |nil=>
  intro hlen _;cases al with
  |nil=>exact⟨[],.nil,bB.mpr rfl⟩
  |cons _ _=>cases hlen
 |cons u us ih=>
  intro hlen each;cases al with
  |nil=>cases hlen
  |cons p al=>
   obtain⟨ws,w1,w2⟩:=ih (al:=al) (by simpa using hlen) λj u e=>by
    have:=each (j+1) u (by rw[KI];exact e)
    rw[KI]at this;exact this
   obtain⟨b,q,e1,e2,e3⟩:=each 0 u rfl;cases e2;have bO:b∉O:=λz=>by
    obtain⟨u',q1,q2⟩:=hO.2 b z;rw[e3]at q1;cases q1;exact q2
   exact⟨.ref b::ws,.cons (by rw[e1];rfl) w1,aK.mpr ⟨.ref b,ws,rfl,bh.mpr ⟨b,_,rfl,by rw[cQ bO];exact e3,k6 p.1⟩,w2⟩⟩
theorem pC(hc:X.calm=true):dz X (.builtin "sorted") (zk X.K eK):=by
 rintro pins s σ H xs us Q I r ⟨O,ds,d,hO,hd,hg,q⟩;unfold eK at hg;split at hg
 ·rename_i ks vs0;obtain⟨al,hk,hg⟩:=Option.bind_eq_some_iff.mp hg;obtain⟨v,ev,h1⟩:=hd.one;subst ev;obtain⟨a,ea,hh⟩:=jk h1 hk;subst ea;obtain⟨u,rfl,ru⟩:=vals1 r;cases ru;have fin:∀(H0:Hp)(kvs:List (List Key×V)),Inv X pins σ H0 s->Rd H0 a (.dT kvs)->kvs.map (·.1)=al.map (·.1)->(∀b ys,H0 b=some (.tup ys)->H b=some (.tup ys))->Mr `i X.A (call (.builtin "sorted") [.ref a]) (EP X pins σ Q) X.xe s:=λH0 kvs I0 hr hk2 ht=>by
   obtain⟨z,hs,o,es,ep,raw,hsz,hkey⟩:=qS I0 hr;have hl:al.length=kvs.length:=(by have:=congrArg List.length hk2;simpa using this.symm);obtain⟨ws,w1,w2⟩:=ww (K:=X.K) hO (al:=al) (us:=es.toList.map (·.key)) (by rw[IZ,Array.length_toList,hsz,hl]) λj u e=>by
    rw[IV,Array.getElem?_toList]at e;obtain⟨en,e3,rfl⟩:=Option.map_eq_some_iff.mp e;obtain⟨b,q,w1,w2,w3⟩:=hkey j en e3;refine⟨b,q,w1,?_,ht _ _ w3⟩
    have:=congrArg (λl=>l[j]?) hk2
    simp only[IV]at this;rw[<-this];exact w2
   refine jI I hO w2 w1 hg (λQ' hQ=>PySem.W.kdu_collect (qG hs) (I.ok.hd hc) raw (by rw[hsz];exact z) λh' tk acc kp it=>?_) q
   have:acc.toList=es.toList.map (·.key):=by
    refine Kt λj=>?_;rw[IV,Array.getElem?_toList,Array.getElem?_toList];by_cases hj:j<acc.size
    ·obtain⟨en,e3,e4⟩:=it.2 j acc[j] (by simp[hj]);rw[e3,Array.getElem?_eq_getElem hj,e4];rfl
    ·have h2:¬j<es.size:=(by rw[<-it.1];exact hj);rw[Array.getElem?_eq_none `o,Array.getElem?_eq_none `o];rfl
   rw[this];exact hQ h' tk kp
  rcases hh with⟨kvs,hr,e1,_⟩|⟨hr,e1⟩
  ·exact fin H kvs I (pK hr) e1 λ_ _ z=>z
  ·have ha:=(aj H O) _ _ hr;refine fin _ [] (pE I ha) (.inl ah) (by rw[e1];rfl) λb ys eb=>?_;by_cases z:b=a
   ·rw[z,ah]at eb;cases eb
   ·rw[ai z]at eb;exact eb
 ·cases hg
noncomputable def Cp(K:KZ):aB->Hp->VK->Prop:=λvs H Q=>∃(O:au)(ps:bu)(ws:aB)(p:Ma),vs=[.ref p]/\bQ H O/\jG K H p ws/\ax K (hid H O) (ps.map λp=>.tup [.tup (p.1.map aJ),p.2]) ws/\small ps.length=true/\∀(l:Ma)(kvs':List (List Key×V)),H l=none->kvs'.map (·.1)=(nO ps).map (·.1)->ax K (hid H O) ((nO ps).map (·.2)) (kvs'.map (·.2))->Q (.ref l) (upd H l (.dT kvs'))
theorem sG(hc:X.calm=true)(hu:X.A.units+64<MF):dz X (.type "dict") (Cp X.K):=by
 rintro pins s σ H xs us Q I r ⟨O,ps,ws,p,rfl,hO,g1,g2,sm,q⟩;obtain⟨u,rfl,ru⟩:=vals1 r;cases ru;obtain⟨its,rv,⟨o,n,ho,hcl,hd',hdd⟩,hz⟩:=I.list g1;obtain⟨L,ks,l1,l2,l3,l4,l5⟩:=kB I g2 rv;have kl:ks.length=ps.length:=by have:=congrArg List.length l4;simpa using this
 have ll:ks.length=L.length:=Paired.length l3;have key:∀{ks:List (List Key×V)}{L:List (List Key×Ma×L8)},KT H ks L->∀x∈L,∀h,Keeps s.heap h->(tupleKind (aQ X.prog X.w)).is h x.1 x.2.1:=λ{ks L} kt=>by
  induction kt with
  |nil=>intro x hx;cases hx
  |cons hq _ ih=>
   intro x hx h kh;rcases List.mem_cons.mp hx with z|z
   ·subst z;obtain⟨e1,e2,_⟩:=hq;rw[e1]at e2;obtain⟨o,xs,n,k1,k2⟩:=eI I.hok e2;exact⟨o,xs,n,kh _ _ k1,k2⟩
   ·exact ih x z h kh
 obtain⟨f1,f2,f3,f4⟩:=lZ (K:=X.K) (H:=H) (H0:=hid H O) (al:=[]) (kvs:=[]) (xs:=[]) l3 l4 l5 .nil rfl (bB.mpr rfl);have hsz:ps.length<=100000:=of_decide_eq_true sm;have sl:Mk=16777216:=MD;refine gA (knd:=tupleKind (aQ X.prog X.w)) (L:=L) ho hcl hdd hd' (I.ok.hd hc) (M0 (by rw[in1_units];omega)) (by simpa using l1) `o (λi v e=>l2 i v (by simpa using e)) (key l3) λh' tk kp di=>?_;have hf:=I.hok.fresh (IJ s.heap.objs.size);obtain⟨⟨od,es,ep,k1,k2,k3,k4,k5⟩,_⟩:=di;have kt':KT (upd H s.heap.objs.size (.dT (ks.foldl (λm p=>putK m p.1 p.2) []))) (ks.foldl (λm p=>putK m p.1 p.2) []) (L.foldl (λxs x=>storedH xs x.1 x.2.1 x.2.2) []):=KT.keeps f1 λb ys eb=>by rw[ai (λz=>by rw[z,hf]at eb;cases eb)];exact eb
 refine⟨.ref s.heap.objs.size,_,I.laid (t':=tk) kp (IJ _) (show a7 X.prog X.w _ h' _ (.dT (ks.foldl (λm p=>putK m p.1 p.2) []))from⟨by simp only[Jm]at f4;omega,beq_eq_false_iff_ne.mpr (Ne.symm (Iw I.big)),_,kt',od,es,ep,k1,k2,k3,k4,k5⟩),rfl,?_⟩;exact q _ _ hf f2 f3
end
end TG
namespace TX
open PySem PySem.Spec L2 TG
variable[aq]
structure XE(X:Cx)(e:Mb)(F:FX):Prop where h:FE X e F
structure XT(X:Cx)(e:Mb)(F:aY):Prop where h:FT X e F
structure XW(X:Cx)(e:Mb)(F:aY):Prop where h:FW X e F
structure XA(X:Cx)(e:aX)(F:aN):Prop where h:FA X e F
structure XS(X:Cx)(e:Md)(F:bG):Prop where h:FS X e F
structure lD(X:Cx)(e:cq)(F:bG):Prop where h:Gf X e F
structure XI(X:Cx)(t e:Mb)(F:aN):Prop where h:FI X t e F
structure XG(X:Cx)(e:Mb)(F:GF):Prop where h:FG X e F
structure BK(X:Cx)(e:aX)(F:v8):Prop where h:HZ X e F
structure XO(X:Cx)(e:Option Mb)(F:ak->R bX):Prop where h:FO X e F
structure XN(X:Cx)(e:Mb)(F:FX):Prop where h:FN X e F
structure FL(X:Cx)(e:aX)(F:aY):Prop where h:Hg X e F
structure XV(X:Cx)(e:Mb)(i:Nat):Prop where h:PE X e (xn i)
structure XB(X:Cx)(scope:Mp)(N:ay)(tg elt:Mb)(ifs:aX)(g:GF)(C:aY)(Fe:FX)(cl:ky)(C':Ma)(fp:au)(s:Mf)(H:Hp)(E:aD):Prop where
 a:XG (bf X scope N cl C' fp s H E) tg g
 b:FL (bf X scope N cl C' fp s H E) ifs C
 c:XE (bf X scope N cl C' fp s H E) elt Fe
structure mV(X:Cx)(scope:Mp)(N:ay)(tg elt:Mb)(ifs:aX)(g:GF)(C:aY)(Fe:FX):Prop where
 q:∀cl C' fp s H E,XB X scope N tg elt ifs g C Fe cl C' fp s H E
theorem mV.h{X:Cx}{scope:Mp}{N:ay}{tg elt:Mb}{ifs:aX}{g:GF}{C:aY}{Fe:FX}(x:mV X scope N tg elt ifs g C Fe):HG X scope N tg elt ifs g C Fe:=λcl C' fp s H E=>⟨(x.q cl C' fp s H E).a.h,(x.q cl C' fp s H E).b.h,(x.q cl C' fp s H E).c.h⟩
theorem xv{X:Cx}(i:Nat){x:Str}{pos:Pos}(hN:X.N[i]?=some x:=by rfl)(hv:Dk X.env.scope x:=by first|exact Or.inl rfl|exact Or.inr (Or.inl rfl)|exact Or.inr (Or.inr rfl))(hd:(x==("__debug__":Str))=false:=by decide)
  (hcd:(x==("__classdict__":Str))=false:=by decide):XV X (.Name x pos) i:=⟨pv i hN hv hd hcd⟩
theorem HJ{X:Cx}{e:Mb}{f:aY}(h:XW X e f):XT X e f:=⟨FW.ft h.h⟩
section
variable[aq]{X:Cx}
theorem AX{i:Nat}{x:Str}{pos:Pos}(h:XV X (.Name x pos) i):XE X (.Name x pos) (aa i):=⟨PE.weak h.h λσ H Q zq=>zq.elim λO zq=>zq.elim λρ zq=>zq.elim λE hF=>by
  obtain⟨d,e,q⟩:=vg hF;obtain⟨v,e,dv⟩:=E.val i d e;exact⟨v,e,q v H (aI.refl H) dv⟩⟩
theorem Bj{i j pos}:XE X (.Constant (.int i) j pos) (fC (.int i)):=⟨jA Dl λ_ _=>dm.mpr rfl⟩
theorem Dw{b j pos}:XE X (.Constant (.bool b) j pos) (fC (.bl b)):=⟨jA Fw λ_ _=>gC.mpr rfl⟩
theorem AI{j pos}:XE X (.Constant .none j pos) (fC .non):=⟨jA D7 λ_ _=>fP.mpr rfl⟩
theorem Bi{x j pos}:XE X (.Constant (.str x) j pos) (fC (.str x)):=⟨jA CD λ_ _=>cM.mpr rfl⟩
theorem zx:XA X [] ao:=⟨TG.C4 ⟩
theorem wQ{e:Mb}{es:aX}{f:FX}{g:aN}(he:XE X e f)(hs:XA X es g)(hns:noStar e=true:=by rfl):XA X (e::es) (af f g):=⟨TG.tN he.h hs.h hns⟩
theorem AV{es:aX}{g:aN}{k pos}(h:XA X es g):XE X (.Tuple es k pos) (bJ g):=⟨PE.weak (CY h.h) λσ H Q zq=>zq.elim λO zq=>zq.elim λρ zq=>zq.elim λE hF=>⟨O,ρ,E,(gk.bind hF).imp λxs hF vs H1 s1 d1=>by
  obtain⟨d,e,q⟩:=gk.rO hF;obtain⟨hz,e⟩:=bg e;subst e;refine⟨by rw[<-d1.length];exact bZ hz,λp hp=>?_⟩;exact q _ _ (s1.trans (aW hp _)) (eA (E.all.same s1) hp d1)⟩⟩
theorem Bp{es:aX}{g:aN}{pos}(h:XA X es g):XE X (.List es pos) (dD g):=⟨PE.weak (wW h.h) λσ H Q zq=>zq.elim λO zq=>zq.elim λρ zq=>zq.elim λE hF=>⟨O,ρ,E,(gk.bind hF).imp λxs hF vs H1 s1 d1=>by
  obtain⟨d,e,q⟩:=gk.rO hF;obtain⟨hz,e⟩:=bg e;subst e;refine⟨by rw[<-d1.length];exact bZ hz,λp hp=>?_⟩;exact q _ _ (s1.trans (aW hp _)) (ck (E.all.same s1) hp d1)⟩⟩
theorem ik{a b:Mb}{op:Operator}{r:R2}{g:D->D->aU}{fa fb:FX}{pos:Pos}(ho:jj X (MA op) r)(s:c6 X.K r g)(ha:XE X a fa)(hb:XE X b fb):XE X (.BinOp a op b pos) (f2 g fa fb):=⟨PE.weak (Fm ho ha.h hb.h) (oB s)⟩
theorem iN{a b:Mb}{op:CmpOp}{r:R2}{g:D->D->aU}{fa fb:FX}{pos:Pos}(ho:jj X (MB op) r)(s:c6 X.K r g)(ha:XE X a fa)(hb:XE X b fb)(hm:MC op b=false):XE X (.Compare a [op] [b] pos) (f2 g fa fb):=⟨PE.weak (zZ ho ha.h hb.h hm) (oB s)⟩
theorem iD{a b:Mb}{op:CmpOp}{r:R2}{g:D->D->aU}{fa fb:FX}{pos:Pos}(ho:jj X (MB op) r)(s:c6 X.K r g)(ha:XE X a fa)(hb:XE X b fb)(hm:MC op b=false):XT X (.Compare a [op] [b] pos) (fB (f2 g fa fb)):=⟨PT.weak (zD ho ha.h hb.h hm) (xD (oB s))⟩
end
section
variable[aq]{X:Cx}{a b c:Mb}{rest:aX}{pos:Pos}{f g:aY}
theorem zH(h:XT X a f):XT X (.UnaryOp .Not a pos) (vC f):=⟨PT.weak (D8 h.h) λσ H Q ⟨O,ρ,E,hF⟩=>⟨O,ρ,E,(gk.bind hF).imp λb q H1 s1=>q H1 s1⟩⟩
theorem xt(h:XT X a f):XW X (.BoolOp .And [a] pos) f:=⟨Ah h.h⟩
theorem Ay(h:XT X a f):XW X (.BoolOp .Or [a] pos) f:=⟨CQ h.h⟩
theorem z8(ha:XT X a f)(hb:XW X (.BoolOp .And (b::rest) pos) g):XW X (.BoolOp .And (a::b::rest) pos) (pp f g):=⟨PW.weak (Dj ha.h hb.h) λσ H Q zq=>zq.elim λO zq=>zq.elim λρ zq=>zq.elim λE hF=>⟨O,ρ,E,(gk.bind hF).imp λc hF H1 s1=>by
 cases c with
 |true=>exact uF ⟨O,ρ,E.same s1,(hF.mono s1).imp λb q H2 s2=>q H2 (s1.trans s2)⟩
 |false=>exact yK (hF H1 s1)⟩⟩
theorem Ed(ha:XT X a f)(hb:XW X (.BoolOp .Or (b::rest) pos) g):XW X (.BoolOp .Or (a::b::rest) pos) (zm f g):=⟨PW.weak (EV ha.h hb.h) λσ H Q zq=>zq.elim λO zq=>zq.elim λρ zq=>zq.elim λE hF=>⟨O,ρ,E,(gk.bind hF).imp λc hF H1 s1=>by
 cases c with
 |false=>exact yK ⟨O,ρ,E.same s1,(hF.mono s1).imp λb q H2 s2=>q H2 (s1.trans s2)⟩
 |true=>exact uF (hF H1 s1)⟩⟩
end
section
variable[aq]{X:Cx}
theorem CV{a b:Mb}{fa fb:FX}{pos:Pos}(ha:XE X a fa)(hb:XE X b fb)(hs:jx b):XE X (.Subscript a b pos) (f2 aR fa fb):=⟨PE.weak (xQ G4 ha.h hb.h hs) (oB bK)⟩
theorem w6{e:Mb}{f:FX}(h:XE X e f):XO X (some e) (pT f):=⟨λpins s σ H Q I zq=>zq.elim λO zq=>zq.elim λρ zq=>zq.elim λE hF=>
 Bq h.h pins s σ H Q I ⟨O,ρ,E,(gk.bind hF).imp λd hF v H1 s1 d1=>by
  obtain⟨o,e,q⟩:=gk.rO hF;cases d with
  |int i=>
   cases e;exact⟨i,dm.mp d1,q H1 s1⟩
  |_=>cases e⟩⟩
theorem u5{e:Mb}{f:FX}{l h:ak->R bX}{lo hi:Option Mb}{p2 pos:Pos}(he:XE X e f)(hl:XO X lo l)(hh:XO X hi h):XE X (.Subscript e (.Slice lo hi none p2) pos) (pq f l h):=⟨PE.weak (yB GH he.h hl.h hh.h) λσ H Q zq=>zq.elim λO zq=>zq.elim λρ zq=>zq.elim λE hF=>⟨O,ρ,E,(gk.bind hF).imp λa hF x H1 s1 d1=>⟨O,ρ,E.same s1,((gk.bind hF).mono s1).imp λlo' hF H2 s2=>⟨O,ρ,E.same (s1.trans s2),((gk.bind hF).mono (s1.trans s2)).imp λhi' hF H3 s3=>by
  obtain⟨d,e,q⟩:=gk.rO hF;exact⟨O,a,d,E.all.same ((s1.trans s2).trans s3),d1.mono (aM (s2.trans s3)),e,λv H4 s4 d4=>q v H4 (((s1.trans s2).trans s3).trans s4) d4⟩⟩⟩⟩⟩
end
section
variable[aq]{X:Cx}{x:Str}{p pos:Pos}{e:Mb}{es:aX}{id T:String}{g:List D->aU}{f:aN}
theorem jL(hc:dz X (.builtin id) (zk X.K g))(hg:Gl X x)(hm:X.mg x=none)(hv:Mm x=some (.builtin id))(ha:XA X (e::es) f)(hn:x≠"__name__":=by decide)(hdb:(x==("__debug__":Str))=false:=by decide)(hns:(e::es).all noStar=true:=by rfl):XE X (.Call (.Name x p) (e::es) [] pos) (fL g f):=⟨PE.weak (qC hc hg hm hv ha.h hn hdb (cC (Jc _ _ ▸ hns).1) (dr (Jc _ _ ▸ hns).2)) (yU lH)⟩
theorem fU(hc:dz X (.type T) (zk X.K g))(hg:Gl X x)(hm:X.mg x=none)(hv:Mm x=some (.type T))(ha:XA X (e::es) f)(hn:x≠"__name__":=by decide)(hdb:(x==("__debug__":Str))=false:=by decide)(hns:(e::es).all noStar=true:=by rfl):XE X (.Call (.Name x p) (e::es) [] pos) (fL g f):=⟨PE.weak (kA hc hg hm hv ha.h hn hdb (cC (Jc _ _ ▸ hns).1) (dr (Jc _ _ ▸ hns).2)) (yU lH)⟩
theorem uD{f:FX}{xT:Str}{p2:Pos}(ok:yt X.K T)(hg:Gl X "isinstance")(hm:X.mg "isinstance"=none)(hgT:Gl X xT)(hmT:X.mg xT=none)(hvT:Mm xT=some (.type T))(he:XE X e f)(hn2:xT≠"__name__":=by decide)(hd2:(xT==("__debug__":Str))=false:=by decide)(hns:noStar e=true:=by rfl):XE X (.Call (.Name "isinstance" p) [e,.Name xT p2] [] pos) (kG T f):=⟨PE.weak (qC (wy ok) hg hm xJ (pG he.h (pG (zF (v:=.ty T) hgT hmT hvT rfl hn2 hd2) ya (cC rfl)) (cC hns)) (by decide) (by decide) (cC hns) (dr rfl)) λσ H Q zq=>zq.elim λO zq=>zq.elim λρ zq=>zq.elim λE hF=>⟨O,ρ,E,(gk.bind hF).imp λa hF v H1 s1 d1=>by
  obtain⟨d,e,q⟩:=gk.rO hF;obtain⟨h1,h2⟩:=bg e;subst h2;exact⟨O,v,a,rfl,h1,d1,q _ H1 s1 (gC.mpr rfl)⟩⟩⟩
end
section
variable[aq]{X:Cx}{a:Mb}{f:FX}{pos:Pos}
theorem uH(h:XE X a f)(he:∀whole,isTrue a X.env whole=(do let v<-whole;standAt a.pos;holding [v] (truthy v)):=by intro _;rfl):XT X a (ka f):=⟨PT.weak (yn h.h he) λσ H Q zq=>zq.elim λO zq=>zq.elim λρ zq=>zq.elim λE hF=>⟨O,ρ,E,(gk.bind hF).imp λd hF x H1 s1 d1=>by
 obtain⟨r,hF,q⟩:=gk.rO hF;refine⟨r,?_,q H1 s1⟩;cases d with
 |non=>cases hF;rw[fP.mp d1];rfl
 |bl b=>cases hF;rw[gC.mp d1];rfl
 |int i=>cases hF;rw[dm.mp d1];rfl
 |str y=>
  obtain⟨hz,e⟩:=bg hF;subst e;rw[cM.mp d1];refine⟨bZ hz,?_⟩;show(y.length !=0)=((y.length:Int) !=0)
  cases y.length<;>rfl
 |tup xs=>
  cases hF;obtain⟨p,vs,e,g1,g2⟩:=bh.mp d1;rw[e];refine .inr (.inl ⟨vs,aV (aj H1 O) g1,?_⟩);have l:=g2.length;cases xs<;>cases vs<;>first|rfl|(simp at l)
 |lst xs=>
  cases hF;obtain⟨p,vs,e,g1,g2⟩:=bn.mp d1;rw[e];refine .inl ⟨vs,(aj H1 O).seq g1,?_⟩;have l:=g2.length;cases xs<;>cases vs<;>first|rfl|(simp at l)
 |_=>cases hF⟩⟩
end
section
variable[aq]{X:Cx}{tg:Mb}
theorem Ap{e:Mb}{f:FX}(h:XE X e f):XI X tg e (bq f):=by
 refine⟨?_⟩;rintro pins s σ H R I ⟨O,ρ,E,hG⟩;have hG':=gk.bind hG;cases hf:f ρ with
 |error z=>exact tE h.h pins s σ H R I ⟨O,ρ,E,by rw[hf]at hG' ⊢;cases z with|none=>exact hG'.elim|some x=>exact hG'⟩
 |ok d=>
  rw[hf]at hG';obtain⟨ds,e1,q⟩:=gk.rO (α:=List D) (o:=lL d) hG';cases d with
  |lst xs=>
   cases e1;refine tE h.h pins s σ H R I ⟨O,ρ,E,?_⟩;rw[hf];refine λv H1 s1 d1=>?_;obtain⟨p,vs,ev,g1,g2⟩:=bn.mp d1;exact⟨p,ev,⟨vs,(aj H1 O).seq g1⟩,q _ H1 s1 (vW g1 g2)⟩
  |tup xs=>
   cases e1;refine Dx h.h pins s σ H R I ⟨O,ρ,E,?_⟩;rw[hf];refine λv H1 s1 d1=>?_;obtain⟨p,vs,ev,g1,g2⟩:=bh.mp d1;exact⟨p,ev,⟨vs,aV (aj H1 O) g1⟩,q _ H1 s1 (zf g1 g2)⟩
  |_=>cases e1
theorem si{a:Mb}{f:aN}{p pos:Pos}(hg:Gl X "range")(hm:X.mg "range"=none)(ha:XA X [a] f)(hs:Ms [a] X.env=[(false,eval a X.env)]:=by rfl):XI X tg (.Call (.Name "range" p) [a] [] pos) (cB f):=by
 refine⟨?_⟩;rintro pins s σ H R I ⟨O,ρ,E,hG⟩;refine v7 hg hm ha.h hs pins s σ H R I ⟨O,ρ,E,(gk.bind hG).imp λes hG' vs H1 s1 d1=>?_⟩;clear hG;obtain⟨ds,hG,q⟩:=gk.rO hG';clear hG';unfold lw at hG;split at hG
 ·rename_i j;obtain⟨h1,h2⟩:=bg hG;subst h2;obtain⟨j1,j2⟩:=of_decide_eq_true h1;obtain⟨v,ev,dv⟩:=d1.one;exact⟨j,by rw[ev,dm.mp dv],j1,j2,q _ H1 s1 (sO 0 _)⟩
 ·cases hG
end
section
variable[aq]{X:Cx}{pos:Pos}
theorem yv{i:Nat}{x:Str}(hN:X.N.Nodup)(hi:X.N[i]?=some x)(hx:Loc X.env.scope x)(hf:X.fn x=true\/X.env.scope.names.lookup x=some .local:=by first|exact .inl rfl|exact .inr rfl|assumption):XG X (.Name x pos) (gN i):=by
 refine⟨?_⟩;rintro pins s σ H v u Q I r ⟨O,ρ,d,ρ',E,hd,hg,q⟩;cases hg;have hiσ:i<σ.length:=by rw[I.len];exact(List.getElem?_eq_some_iff.mp hi).1
 refine zL hN hi hx hf pins s σ H v u Q I r (q _ (E.setV hiσ hd) λj x e nv=>?_);rcases av e with⟨_,eq⟩|⟨ne,eq⟩
 ·cases eq;exact absurd rfl (nv _)
 ·exact⟨IH (Ne.symm ne),eq⟩
theorem yO:BK X [] BR:=by
 refine⟨?_⟩;rintro pins s σ H vs us Q I r ⟨O,ρ,ds,ρ',E,hd,hg,q⟩;cases ds with
 |nil=>
  cases hg;rw[bB]at hd;exact zt pins s σ H vs us Q I r ⟨hd,q _ E λi x e _=>⟨rfl,e⟩⟩
 |cons _ _=>cases hg
theorem vT{e:Mb}{es:aX}{g:GF}{h:v8}(h1:XG X e g)(h2:BK X es h)(hs:(assignEach (e::es) X.env).map (·.2)=assign e X.env::(assignEach es X.env).map (·.2):=by rfl):BK X (e::es) (za g h):=by
 refine⟨?_⟩;rintro pins s σ H vs us Q I r ⟨O,ρ,ds,ρ',E,hd,hg,q⟩;cases ds with
 |nil=>cases hg
 |cons d ds=>
  obtain⟨ρ1,e1,e2⟩:=bind_some hg;rw[aK]at hd;obtain⟨v,vr,ev,d1,d2⟩:=hd;exact yh h1.h h2.h hs pins s σ H vs us Q I r ⟨v,vr,ev,O,ρ,d,ρ1,E,d1,e1,λσ1 E1 k1=>⟨O,ρ1,ds,ρ',E1,d2,e2,λσ2 E2 k2=>q σ2 E2 λi x e nv=>by
   obtain⟨a1,a2⟩:=k2 i x e nv;obtain⟨b1,b2⟩:=k1 i x a2 nv;exact⟨a1.trans b1,b2⟩⟩⟩
theorem zu{es:aX}{k:Nat}{g:v8}{n:Nat}(hc:X.calm=true)(h:BK X es g)(hn:(assignEach es X.env).length=n:=by rfl)(hst:(assignEach es X.env).findIdx? (·.1)=none:=by rfl):XG X (.Tuple es k pos) (gT n g):=by
 refine⟨?_⟩;rintro pins s σ H v u Q I r ⟨O,ρ,d,ρ',E,hd,hg,q⟩;cases d with
 |tup xs=>
  obtain⟨p,vs,ev,g1,g2⟩:=bh.mp hd;have hg':(if xs.length=n then g xs ρ else none)=some ρ':=hg;by_cases hl:xs.length=n
  ·rw[if_pos hl]at hg';exact Cz hc h.h hn hst pins s σ H v u Q I r ⟨p,vs,ev,aV (aj H O) g1,by rw[<-g2.length];exact hl,O,ρ,xs,ρ',E,g2,hg',q⟩
  ·rw[if_neg hl]at hg';cases hg'
 |_=>cases hg
end
section
variable[aq]
theorem yX{X:Cx}:FL X [] b9:=⟨TG.zT ⟩
theorem wg{X:Cx}{c:Mb}{F:aY}(h:XT X c F):FL X [c] F:=⟨Bf h.h⟩
end
section
variable[aq]{X:Cx}{elt tg iter:Mb}{ifs:aX}{scope:Mp}{pos:Pos}{N:ay}{ix:dA}{G:aN}{g:GF}{C:aY}{Fe:FX}
theorem CP(hc:X.calm=true)(ok:iQ X scope N ix)(tk:kW ix g)(hi:XI X tg iter G)(hb:mV X scope N tg elt ifs g C Fe)(hs:∀x,Mz iter X.env x=pure x:=by intro _;rfl):XE X (.ListComp elt [⟨tg,iter,ifs,0⟩] scope pos) (fW ix G g C Fe):=⟨PE.weak (BA hc ok.cell ok.kind ok.names ok.free ok.ix hi.h hb.h.k hs) (B2 tk)⟩
end
section
variable[aq]{X:Cx}{st:Md}{rest body:cq}{pos:Pos}
theorem xu:lD X [] bj:=⟨λHb Ob=>o4.weak uo λE σ H zq=>zq.elim λO zq=>zq.elim λρ zq=>zq.elim λk zq=>zq.elim λr zq=>zq.elim λS zq=>zq.elim λhF hk=>hk.nx O ρ σ H S hF⟩
theorem vf{F1 F2:bG}(h1:XS X st F1)(h2:lD X rest F2):lD X (st::rest) (aA F1 F2):=⟨λHb Ob=>o4.weak (wH (h1.h Hb Ob) (h2.h Hb Ob)) λE σ H zq=>zq.elim λO zq=>zq.elim λρ zq=>zq.elim λk zq=>zq.elim λr zq=>zq.elim λS zq=>zq.elim λhF hk=>
 ⟨O,ρ,{k with nx:=F2 k},r,S,hF,hk.ne,λO' ρ' σ' H' S' e=>⟨O',ρ',k,r,S',e,hk⟩,hk.bk,hk.ct,hk.rt,hk.ex⟩⟩
theorem yD{F1:bG}(h1:XS X st F1):lD X [st] F1:=⟨λHb Ob=>tD (h1.h Hb Ob)⟩
theorem z4{e:Mb}{f:FX}(h:XE X e f):XS X (.Return (some e) pos) (cm f):=⟨λHb Ob=>PS.weak (Cb h.h) λE σ H zq=>zq.elim λO zq=>zq.elim λρ zq=>zq.elim λk zq=>zq.elim λr zq=>zq.elim λS zq=>zq.elim λhF hk=>
 ⟨O,ρ,S.env,gk.on hF hk S λd e v H' s' d'=>hk.rt d O v H' e.symm (S.base.same' s') d'⟩⟩
theorem x9:XS X (.Pass pos) bj:=⟨λHb Ob=>PS.weak zM λE σ H zq=>zq.elim λO zq=>zq.elim λρ zq=>zq.elim λk zq=>zq.elim λr zq=>zq.elim λS zq=>zq.elim λhF hk=>hk.nx O ρ σ H S hF⟩
theorem Ab{x j pos'}:XS X (.Expr (.Constant (.str x) j pos) pos') bj:=⟨λHb Ob=>PS.weak CF λE σ H zq=>zq.elim λO zq=>zq.elim λρ zq=>zq.elim λk zq=>zq.elim λr zq=>zq.elim λS zq=>zq.elim λhF hk=>hk.nx O ρ σ H S hF⟩
theorem Ec{c:Mb}{a b:cq}{tc:aY}{A B:bG}(hc:XT X c tc)(ha:lD X a A)(hb:lD X b B):XS X (.If c a b pos) (i7 tc A B):=⟨λHb Ob=>PS.weak (Fg hc.h (ha.h Hb Ob) (hb.h Hb Ob)) λE σ H zq=>zq.elim λO zq=>zq.elim λρ zq=>zq.elim λk zq=>zq.elim λr zq=>zq.elim λS zq=>zq.elim λhF hk=>
 ⟨O,ρ,S.env,gk.on hF hk S fun z e H1 s1=>by
  cases z with
  |true=>exact uF ⟨O,ρ,k,r,S.same s1,e,hk⟩
  |false=>exact yK ⟨O,ρ,k,r,S.same s1,e,hk⟩⟩⟩
theorem AY{i:Nat}{x:Str}{e:Mb}{f:FX}{pos':Pos}(hN:X.N.Nodup)(hi:X.N[i]?=some x)(hx:Loc X.env.scope x)(he:XE X e f)(hs:swapsWith e (some (.Name x pos')) pos.line X.env=pure false:=by rfl)(hf:X.fn x=true\/X.env.scope.names.lookup x=some .local:=by first|exact .inl rfl|exact .inr rfl|assumption):XS X (.Assign [.Name x pos'] e pos) (bF i f):=⟨nU (List.getElem?_eq_some_iff.mp hi).1 (yd hN hi hx he.h hs hf)⟩
theorem CU{elt tg iter:Mb}{ifs:aX}{scope:Mp}{N:ay}{ix:dA}{G:aN}{g:GF}{C:aY}{Fe:FX}{i:Nat}{y:Str}{lpos py spos:Pos}(hN:X.N.Nodup)(hi':X.N[i]?=some y)(hx:Loc X.env.scope y)(hc:X.calm=true)(ok:iQ X scope N ix)(tk:kW ix g)(hi:XI X tg iter G)(hb:mV X scope N tg elt ifs g C Fe)(hsw:swapsWith (.ListComp elt [⟨tg,iter,ifs,0⟩] scope lpos) (some (.Name y py)) spos.line X.env=pure true:=by rfl)(hs:∀x,Mz iter X.env x=pure x:=by intro _;rfl)(hf:X.fn y=true\/X.env.scope.names.lookup y=some .local:=by first|exact .inl rfl|exact .inr rfl|assumption):XS X (.Assign [.Name y py] (.ListComp elt [⟨tg,iter,ifs,0⟩] scope lpos) spos) (bF i (fW ix G g C Fe)):=⟨nU (List.getElem?_eq_some_iff.mp hi').1 (PS.weak (yT hN hi' hx hc ok.cell ok.kind ok.names ok.free ok.ix hi.h hb.h.k hsw hs hf) λE σ H q=>B2 tk σ H _ q)⟩
theorem zB{tg e:Mb}{f:FX}{g:GF}(he:XE X e f)(hg:XG X tg g)(hs:swapsWithSole [tg] e pos.line X.env=pure false:=by rfl)(hw:swappedStores [tg] e X.env=pure none:=by rfl)(h1:(assignEach [tg] X.env).map (·.2)=[assign tg X.env]:=by rfl):XS X (.Assign [tg] e pos) (zy f g):=⟨λHb Ob=>PS.weak (DR he.h hg.h hs hw h1) λE σ H zq=>zq.elim λO zq=>zq.elim λρ zq=>zq.elim λk zq=>zq.elim λr zq=>zq.elim λS zq=>zq.elim λhF hk=>
 ⟨O,ρ,S.env,gk.on hF hk S fun d e v H1 s1 d1=>by
  cases hg.h:g d ρ with
  |none=>rw[hg.h]at e;exact absurd e.symm hk.ne
  |some ρ1=>
   rw[hg.h]at e;refine⟨O,ρ,d,ρ1,(S.same s1).env,d1,hg.h,λσ' E' own=>hk.nx O ρ1 σ' H1 ((S.same s1).after E' own) e⟩⟩⟩
theorem uY{st:cq}{F:bG}(is:aT)(h:lD X st F):lD X st (bI is F):=⟨λHb Ob=>o4.weak (h.h Hb Ob) λE σ H zq=>zq.elim λO zq=>zq.elim λρ zq=>zq.elim λk zq=>zq.elim λr zq=>zq.elim λS zq=>zq.elim λhF hk=>⟨O,TG.kill is ρ,k,r,S.kill is,hF,hk⟩⟩
theorem AZ{tg iter:Mb}{G:aN}{g:GF}{B:bG}(hp:Mv `i X.A X.env X.xe)(hc:X.calm=true)(hi:XI X tg iter G)(hg:XG X tg g)(hb:lD X body B)(hs:∀x,Mz iter X.env x=pure x:=by intro _;rfl):XS X (.For tg iter body [] pos) (jS G g B):=⟨λHb Ob pins s σ H E I zq=>zq.elim λO zq=>zq.elim λρ zq=>zq.elim λk zq=>zq.elim λr zq=>zq.elim λS zq=>zq.elim λhF hk=>by
 have hall:o4 X body (λE σ H=>∃Hb',Gg X Hb' Ob B E σ H):=λpins s σ H E I zq=>zq.elim λHb' q=>hb.h Hb' Ob pins s σ H E I q;refine Dh hp hc hi.h hg.h hall hs pins s σ H E I ⟨O,ρ,S.env,gk.on hF hk S λds hF J H1 s1 wk=>?_⟩;have E1:=S.same s1;refine⟨λi m σ H=>m=ds.length-i/\i<=ds.length/\∃O' ρ',bx X.K (lb H1 O Ob) Ob O' H ρ' σ/\dg g B k (ds.drop i) ρ'=r,
  ⟨ds.length,by rw[JM],Jq _,O,ρ,E1.loop,by rw[Jx];exact hF⟩,?_⟩
 rintro i m σ' H' ⟨rfl,hi',O',ρ',E',hr⟩;have sD:=ye E1.base E'.base;by_cases hlt:i<ds.length
 ·right;obtain⟨go,yl⟩:=(wk H' O' i E'.env.all sD).1 ds[i] (by simp[hlt]);refine⟨go,λσ2 H2=>ds.length-(i+1)=ds.length-(i+1)/\i+1<=ds.length/\∃O' ρ',bx X.K (lb H1 O Ob) Ob O' H2 ρ' σ2/\dg g B k (ds.drop (i+1)) ρ'=r,λσ2 H2 z=>⟨ds.length-(i+1),by omega,z⟩,λx H2 y=>?_⟩;obtain⟨s2,dx⟩:=yl x H2 y;have E':=E'.same s2;rw[JO hlt]at hr;cases hg':g ds[i] ρ' with
  |none=>
   have hr':(rO (g ds[i] ρ')).bind (λρ1=>B ⟨dg g B k (ds.drop (i+1)),k.nx,dg g B k (ds.drop (i+1)),k.ex⟩ ρ1)=r:=hr;rw[hg']at hr';exact absurd hr'.symm hk.ne
  |some ρ1=>
   have hr':(rO (g ds[i] ρ')).bind (λρ1=>B ⟨dg g B k (ds.drop (i+1)),k.nx,dg g B k (ds.drop (i+1)),k.ex⟩ ρ1)=r:=hr;rw[hg']at hr';refine⟨O',ρ',ds[i],ρ1,E'.env,dx,hg',λσ3 E3 own=>?_⟩;have E3':bx X.K (lb H1 O Ob) Ob O' H2 ρ1 σ3:=E'.after E3 own;exact⟨lb H1 O Ob,O',ρ1,⟨dg g B k (ds.drop (i+1)),k.nx,dg g B k (ds.drop (i+1)),k.ex⟩,r,E3',hr',hk.loop E1.base (λO4 ρ4 σ4 H4 E4 z=>⟨rfl,hlt,O4,ρ4,E4,z⟩) (λO4 ρ4 σ4 H4 E4 z=>⟨rfl,hlt,O4,ρ4,E4,z⟩) rfl rfl rfl rfl⟩
 ·left;have ei:i=ds.length:=by omega
  subst ei;refine⟨(wk H' O' ds.length E'.env.all sD).2 rfl,?_⟩;rw[JR]at hr;exact hk.nx O' ρ' σ' H' (E'.back E1.base) hr⟩
theorem uU{c:Mb}{tc:aY}{B:bG}(n:Nat)(hp:Mv `i X.A X.env X.xe)(hc:XT X c tc)(hb:lD X body B):XS X (.While c body [] pos) (oE n tc B):=⟨λHb Ob pins s σ H E I zq=>zq.elim λO zq=>zq.elim λρ zq=>zq.elim λk zq=>zq.elim λr zq=>zq.elim λS zq=>zq.elim λhF hk=>by
 have hall:o4 X body (λE σ H=>∃Hb',Gg X Hb' Ob B E σ H):=λpins s σ H E I zq=>zq.elim λHb' q=>hb.h Hb' Ob pins s σ H E I q;refine yW hp hc.h hall pins s σ H E I ⟨λm σ H'=>∃O' ρ',bx X.K (lb H O Ob) Ob O' H' ρ' σ/\cP tc B k m ρ'=r,⟨n,O,ρ,S.loop,hF⟩,?_⟩;rintro m σ' H' ⟨O',ρ',E',hr⟩;cases m with
 |zero=>exact absurd hr.symm hk.ne
 |succ m=>
  refine⟨O',ρ',E'.env,?_⟩;have hr':kS (tc ρ') k ρ' (λb=>if b then B ⟨cP tc B k m,k.nx,cP tc B k m,k.ex⟩ ρ' else k.nx ρ')=r:=hr;refine gk.on hr' hk (E'.back S.base) λb hr H1 s1=>?_;cases b with
  |true=>
   refine uF ⟨λσ2 H2=>∃O' ρ',bx X.K (lb H O Ob) Ob O' H2 ρ' σ2/\cP tc B k m ρ'=r,λσ2 H2 z=>⟨m,Nat.lt_succ_self m,z⟩,?_⟩;exact⟨lb H O Ob,O',ρ',⟨cP tc B k m,k.nx,cP tc B k m,k.ex⟩,r,E'.same s1,hr,hk.loop S.base (λO4 ρ4 σ4 H4 E4 z=>⟨O4,ρ4,E4,z⟩) (λO4 ρ4 σ4 H4 E4 z=>⟨O4,ρ4,E4,z⟩) rfl rfl rfl rfl⟩
  |false=>exact yK (hk.nx O' ρ' σ' H1 ((E'.back S.base).same s1) hr)⟩
end
section
variable[aq]{X:Cx}{pos:Pos}
theorem As{es:aX}{g:aN}(h:XA X es g):XN X (.List es pos) (dD g):=⟨PE.weak (wW h.h) λσ H Q zq=>zq.elim λO zq=>zq.elim λρ zq=>zq.elim λE hF=>⟨O,ρ,E,(gk.bind hF).imp λxs hF vs H1 s1 d1=>by
  obtain⟨d,e,q⟩:=gk.rO hF;obtain⟨hz,e⟩:=bg e;subst e;refine⟨by rw[<-d1.length];exact bZ hz,λp hp=>?_⟩;exact q p _ (s1.trans (aW hp _)) (s1.free hp) ⟨_,ah,trivial⟩ (gL hp d1)⟩⟩
theorem yS{x:Str}{p:Pos}{e:Mb}{f:aN}(hg:Gl X x)(hm:X.mg x=none)(hv:Mm x=some (.type "list"))(ha:XA X [e] f)(hn:x≠"__name__":=by decide)(hdb:(x==("__debug__":Str))=false:=by decide)(hns:noStar e=true:=by rfl):XN X (.Call (.Name x p) [e] [] pos) (fL iZ f):=⟨PE.weak (kA fS hg hm hv ha.h hn hdb (cC hns) (dr rfl)) λσ H Q zq=>zq.elim λO zq=>zq.elim λρ zq=>zq.elim λE hF=>⟨O,ρ,E,(gk.bind hF).imp λds hF vs H1 s1 d1=>by
  obtain⟨d,hg,q⟩:=gk.rO hF;unfold iZ at hg;split at hg
  ·rename_i ys;cases hg;obtain⟨v,ev,h1⟩:=d1.one;rw[bn]at h1;obtain⟨p,ws,ep,g1,g2⟩:=h1;exact⟨p,ws,by rw[ev,ep],.inl ((aj H1 O).seq g1),λl hl=>q l _ (s1.trans (aW hl _)) (s1.free hl) ⟨_,ah,trivial⟩ (gL hl g2)⟩
  ·rename_i ys;cases hg;obtain⟨v,ev,h1⟩:=d1.one;rw[bh]at h1;obtain⟨p,ws,ep,g1,g2⟩:=h1;exact⟨p,ws,by rw[ev,ep],.inr (aV (aj H1 O) g1),λl hl=>q l _ (s1.trans (aW hl _)) (s1.free hl) ⟨_,ah,trivial⟩ (gL hl g2)⟩
  ·cases hg⟩⟩
theorem vR:XN X (.Dict [] [] pos) pR:=⟨TG.En ⟩
theorem zI{i:Nat}{x:Str}{e:Mb}{f:FX}{pos':Pos}(hN:X.N.Nodup)(hi:X.N[i]?=some x)(hx:Loc X.env.scope x)(he:XN X e f)(hs:swapsWith e (some (.Name x pos')) pos.line X.env=pure false:=by rfl)(hf:X.fn x=true\/X.env.scope.names.lookup x=some .local:=by first|exact .inl rfl|exact .inr rfl|assumption):XS X (.Assign [.Name x pos'] e pos) (i5 i f):=⟨nI (List.getElem?_eq_some_iff.mp hi).1 (yd hN hi hx he.h hs hf)⟩
end
section
variable[aq]
theorem uM{X:Cx}{elt tg iter:Mb}{ifs:aX}{scope:Mp}{N:ay}{ix:dA}{G:aN}{g:GF}{C:aY}{Fe:FX}{i:Nat}{y:Str}{lpos py spos:Pos}(hN:X.N.Nodup)(hi':X.N[i]?=some y)(hx:Loc X.env.scope y)(hc:X.calm=true)(ok:iQ X scope N ix)(tk:kW ix g)(hi:XI X tg iter G)(hb:mV X scope N tg elt ifs g C Fe)(hsw:swapsWith (.ListComp elt [⟨tg,iter,ifs,0⟩] scope lpos) (some (.Name y py)) spos.line X.env=pure true:=by rfl)(hs:∀x,Mz iter X.env x=pure x:=by intro _;rfl)(hf:X.fn y=true\/X.env.scope.names.lookup y=some .local:=by first|exact .inl rfl|exact .inr rfl|assumption):XS X (.Assign [.Name y py] (.ListComp elt [⟨tg,iter,ifs,0⟩] scope lpos) spos) (i5 i (fW ix G g C Fe)):=⟨nI (List.getElem?_eq_some_iff.mp hi').1 (PS.weak (yT hN hi' hx hc ok.cell ok.kind ok.names ok.free ok.ix hi.h hb.h.k hsw hs hf) λE σ H q=>wK tk σ H _ (B1 σ H _ q))⟩
theorem CW{X:Cx}{elt tg iter:Mb}{ifs:aX}{scope:Mp}{pos:Pos}{N:ay}{ix:dA}{G:aN}{g:GF}{C:aY}{Fe:FX}(hc:X.calm=true)(ok:iQ X scope N ix)(tk:kW ix g)(hi:XI X tg iter G)(hb:mV X scope N tg elt ifs g C Fe)(hs:∀x,Mz iter X.env x=pure x:=by intro _;rfl):XN X (.ListComp elt [⟨tg,iter,ifs,0⟩] scope pos) (fW ix G g C Fe):=⟨PE.weak (BA hc ok.cell ok.kind ok.names ok.free ok.ix hi.h hb.h.k hs) λσ H Q q=>wK tk σ H _ (B1 σ H _ q)⟩
theorem C1{X : Cx}{i : Nat}{x m : Str}{id : String}{r : V -> aB -> Hp -> VK -> Prop}{u : List D -> List D -> iU}{e : Mb}{es : aX}{f : aN}{npos apos cpos pos : Pos}(slot : Slot "list" m id)(hty : typeOf (.builtin id) = pure (.type "method_descriptor"))(hm : Hh X id r)(ok : Bx X.K r u)(hx : XV X (.Name x npos) i)(he : XA X (e :: es) f)(hbase : ME (.Name x npos) m X.env (eval (.Name x npos) X.env) = eval (.Name x npos) X.env := by rfl)(hfew : ((backTo cpos (Ms (e :: es) X.env)).all (fun x => !x.1) && (backToKw cpos (MV [] X.env)).all (fun x => x.1.isSome)
      && decide ((e::es:aX).length+([]:List MX).length+(if([]:List MX).isEmpty then 0 else 1)<30))=true:=by rfl)(hline:(apos.endLine==cpos.line)=true:=by rfl)(hs:Ms (e::es) X.env=(false,eval e X.env)::Ms es X.env:=by rfl)(hplain:(backTo cpos (Ms es X.env)).any (·.1)=false:=by rfl)(hsw:swapsWith (.Call (.Attribute (.Name x npos) m apos) (e::es) [] cpos) none pos.line X.env=pure false:=by rfl):XS X (.Expr (.Call (.Attribute (.Name x npos) m apos) (e::es) [] cpos) pos) (vx i u f):=⟨λHb Ob pins s σ H E I zq=>zq.elim λO zq=>zq.elim λρ zq=>zq.elim λk zq=>zq.elim λrr zq=>zq.elim λS zq=>zq.elim λhF hk=>by
  unfold vx at hF;split at hF
  · rename_i xs hxs
    obtain⟨a,ha,haO,hat⟩:=S.env.own i _ hxs;obtain⟨o,vs0,ho,eo,dn⟩:=hat;subst eo;refine tq (BU F.plainAttrs_list slot hty hm hx.h he.h hbase hfew hline hs hplain) hsw pins s σ H E I ⟨.ref a,ha,.inl ⟨rfl,vs0,jG.of ho⟩,O,ρ,S.env,gk.on hF hk S λds hr vs H1 s1 d1=>?_⟩;have S1:=S.same s1;cases hu1:u xs ds with
    |none=>rw[hu1]at hr;exact absurd hr.symm hk.ne
    |some ys=>
      rw[hu1]at hr;exact ok H1 O a xs ys ds vs0 vs _ S1.env.all haO (s1 _ _ ho) (dn.mono (aM s1)) d1 hu1 λws' v new=>hk.nx O _ σ _ (S1.setO hxs ha trivial (qg haO new)) hr
  ·exact absurd hF.symm hk.ne⟩
theorem yj{X:Cx}{st:cq}{F:bG}(i:Nat)(h:lD X st F):lD X st (jb i F):=⟨λHb Ob=>o4.weak (h.h Hb Ob) λE σ H zq=>zq.elim λO zq=>zq.elim λρ zq=>zq.elim λk zq=>zq.elim λr zq=>zq.elim λS zq=>zq.elim λhF hk=>by
 obtain⟨O',S'⟩:=S.frz i;exact⟨O',TG.frz i ρ,k,r,S',hF,hk⟩⟩
theorem xY{X:Cx}{e:Mb}{f:FX}(is:aT)(h:XE X e f):XE X e (eW is f):=⟨PE.weak h.h λσ H Q zq=>zq.elim λO zq=>zq.elim λρ zq=>zq.elim λE hF=>by
 obtain⟨O',E'⟩:=E.frzs is;refine⟨O',TG.frzs is ρ,E',?_⟩;unfold eW at hF;cases hf:f (TG.frzs is ρ)with
 |error z=>rw[hf]at hF;exact hF.elim
 |ok d=>
  rw[hf]at hF;have hF':gk X σ O H (if lf d then .ok d else un) _:=hF;cases hl:lf d with
  |false=>rw[hl]at hF';exact hF'.elim
  |true=>
   rw[hl]at hF';exact λv H' s' dv=>hF' v H' s' (wA (E.all.same s') hl dv)⟩
theorem xG{X:Cx}{e:Mb}{f:aY}(is:aT)(h:XT X e f):XT X e (i9 is f):=⟨PT.weak h.h λσ H Q zq=>zq.elim λO zq=>zq.elim λρ zq=>zq.elim λE hF=>by
 obtain⟨O',E'⟩:=E.frzs is;refine⟨O',TG.frzs is ρ,E',?_⟩;unfold i9 at hF;cases hf:f (TG.frzs is ρ)with
 |error z=>rw[hf]at hF;exact hF.elim
 |ok d=>rw[hf]at hF;exact hF⟩
theorem rK{X:Cx}{k k':Nat}{ps:ay}{g:List D->R D}{h:aN}{x:Str}{p pos:Pos}{e:Mb}{es:aX}(C:Callee X.prog X.w X.K X.mg X.base k x ps g)(hn:Ar ps.length g)(hr:eQ k' X.A)(hk:k<=k')(ha:XA X (e::es) h)(hg:Gl X x:=by rfl)(hdb:(x==("__debug__":Str))=false:=by decide)(hns:(e::es).all noStar=true:=by rfl):XE X (.Call (.Name x p) (e::es) [] pos) (fR g h):=by
 refine⟨?_⟩;obtain⟨f,fd,F,b,kp,m⟩:=C;exact PE.weak (w8 F (hr.mono hk) hg m kp b ha.h hdb (cC (Jc _ _ ▸ hns).1) (dr (Jc _ _ ▸ hns).2)) (vK hn)
end
section
variable[aq]{X:Cx}{a b c:Mb}{fa fb fc:FX}{pos:Pos}
theorem AK(ha:XE X a fa):XE X (.UnaryOp .USub a pos) (y0 fa):=⟨PE.weak (Ff DN ha.h) (Cy λx d v O H Q _ e dv q=>by
 cases x with
 |int i=>cases e;exact⟨i,dm.mp dv,q _ H (aI.refl H) (dm.mpr rfl)⟩
 |_=>cases e)⟩
end
section
variable[aq]
theorem yG{X:Cx}{i:Nat}{x:Str}{idx value:Mb}{fk fv:FX}{npos tpos pos:Pos}(hu:X.A.units+64<MF)(hx:XV X (.Name x npos) i)(hi:XE X idx fk)(hv:XE X value fv)(hs:swapsWith value (some (.Subscript (.Name x npos) idx tpos)) pos.line X.env=pure false:=by rfl):XS X (.Assign [.Subscript (.Name x npos) idx tpos] value pos) (eh i fk fv):=⟨λHb Ob pins s σ H E I zq=>zq.elim λO zq=>zq.elim λρ zq=>zq.elim λk zq=>zq.elim λrr zq=>zq.elim λS zq=>zq.elim λhF hk=>by
 unfold eh at hF;split at hF
 ·rename_i ks ds hxs;obtain⟨a,ha,haO,hat⟩:=S.env.own i _ hxs;have hP:=gk.on hF hk S (Q:=λal=>k.nx (ρ.set i (some (.own (az al))))=rr) λp e=>e;refine qA `o hx.h hi.h hv.h hs pins s σ H E I ⟨O,ρ,S.env,(gk.bind hP).imp λy hP v H1 s1 d1=>?_⟩;have S1:=S.same s1;refine⟨.ref a,ha,O,ρ,S1.env,((gk.bind hP).mono s1).imp λj hP w H2 s2 d2=>?_⟩;have S2:=S1.same s2;obtain⟨al',hg,e⟩:=gk.rO hP;obtain⟨al,q,f1,f2,f3,f4,f5⟩:=mE hg;subst f1 f2 f3 f5;have s12:=s1.trans s2;obtain⟨b,ws,eb,g1,g2⟩:=bh.mp d2;rw[b6 g2]at g1;have hat2:bT X.K H2 O a (az al):=hat.mono (let ⟨_,z⟩:=hat.some;iS s12 z) (aM s12);have dv:bv X.K (hid H2 O) y v:=d1.mono (aM s2);have fin:∀kvs:List (List Key×V),kvs.map (·.1)=al.map (·.1)->ax X.K (hid H2 O) (al.map (·.2)) (kvs.map (·.2))->bT X.K (upd H2 a (.dT (putK kvs q v))) O a (az (cn al q y)):=λkvs k2 k3=>
   ⟨_,_,ah,(oC dv k2 k3).mono (dI haO),.inr ⟨putK kvs q v,rfl,kz (lQ k2 q v y),rfl⟩⟩
  rcases zh hat2 with⟨kvs,k1,k2,k3⟩|⟨k1,rfl⟩
  ·have hl:kvs.length=al.length:=(by have:=congrArg List.length k2;simpa using this);exact⟨a,q,b,kvs,rfl,eb,(aj H2 O) _ _ g1,.inl k1,by rw[hl];exact JP (of_decide_eq_true f4) (by decide),hk.nx O _ σ _ (S2.setO hxs ha trivial (fin kvs k2 k3)) e⟩
  ·exact⟨a,q,b,[],rfl,eb,(aj H2 O) _ _ g1,.inr ⟨k1,rfl⟩,by decide,hk.nx O _ σ _ (S2.setO hxs ha trivial (fin [] rfl (bB.mpr rfl))) e⟩
 ·exact absurd hF.symm hk.ne⟩
end
section
variable[aq]{X:Cx}{o e f:Mb}{apos cpos:Pos}
theorem vE{fo fk fx : FX}(hu : X.A.units + 64 < MF)(ho : XE X o fo)(he : XE X e fk)(hf : XE X f fx)(hbase : ME o "get" X.env (eval o X.env) = eval o X.env := by rfl)(hfew : ((backTo cpos (Ms [e, f] X.env)).all (fun x => !x.1) && (backToKw cpos (MV [] X.env)).all (fun x => x.1.isSome)
      && decide (([e,f]:aX).length+([]:List MX).length+(if([]:List MX).isEmpty then 0 else 1)<30))=true:=by rfl)(hline:(apos.endLine==cpos.line)=true:=by rfl)(htr:backTo cpos (Ms [e,f] X.env)=[(false,eval e X.env),(false,eval f X.env)]:=by rfl):XE X (.Call (.Attribute o "get" apos) [e,f] [] cpos) (cU fo fk fx):=⟨PE.weak (v0 `o ho.h he.h hf.h ⟨hbase,hfew,hline,htr⟩) λσ H Q zq=>zq.elim λO zq=>zq.elim λρ zq=>zq.elim λE hF=>⟨O,ρ,E,(gk.bind hF).imp λdd hF v H1 s1 d1=>by
    cases dd with
    |dct ks ds=>
      obtain⟨a,vs,rfl,_,hd⟩:=id (Gm.mp d1);refine⟨a,rfl,?_,O,ρ,E.same s1,((gk.bind hF).mono s1).imp λk hF y H2 s2 d2=>⟨O,ρ,(E.same s1).same s2,((gk.bind hF).mono (s1.trans s2)).imp λx hF z H3 s3 d3=>?_⟩⟩
      · rcases hd with⟨kvs,e1,_⟩|⟨kvs,e1,_⟩|⟨kvs,o,e1,_⟩
        ·exact .inl ⟨kvs,.inl ((aj H1 O) _ _ e1)⟩
        ·exact .inr ⟨kvs,.inl ((aj H1 O) _ _ e1)⟩
        ·exact .inr ⟨kvs,.inr ⟨o,(aj H1 O) _ _ e1⟩⟩
      · obtain⟨d,hg,q⟩:=gk.rO hF
        obtain⟨al,qk,f1,f2,f3,f4⟩:=rJ hg;subst f1 f2 f3 f4;have s23:=s2.trans s3;have d1':bv X.K (hid H3 O) (az al) (.ref a):=d1.mono (aM s23);have d2':=d2.mono (aM s3);obtain⟨b,ws,eb,g1,g2⟩:=bh.mp d2';rw[b6 g2]at g1;have g1':=(aj H3 O) _ _ g1;obtain⟨a',ea,hh⟩:=mh d1';cases ea;subst eb;rcases hh with⟨kvs,k1,k2,k3⟩|⟨k1,rfl⟩
        · refine⟨dJ kvs qk,.inl (ph.t ((aj H3 O) _ _ k1) g1'),q _ H3 (s1.trans s23) ?_⟩
          rcases jz qk k2 k3 with⟨z1,z2⟩|⟨w,d,z1,z2,z3⟩
          ·rw[z1,z2];exact d3
          ·rw[z1,z2];exact z3
        ·exact⟨none,.inr ⟨(aj H3 O) _ _ k1,rfl,b,qk,rfl,g1'⟩,q _ H3 (s1.trans s23) d3⟩
    |_=>exact hF.elim⟩⟩
end
section
variable[aq]{X:Cx}
theorem A6{o e:Mb}{fo fk:FX}{pos:Pos}(hu:X.A.units+64<MF)(ho:XE X o fo)(hi:XE X e fk)(hs:DH e):XE X (.Subscript o e pos) (f2 dh fo fk):=⟨PE.weak (zU `o ho.h hi.h hs) λσ H Q zq=>zq.elim λO zq=>zq.elim λρ zq=>zq.elim λE hF=>⟨O,ρ,E,(gk.bind hF).imp λdd hF v H1 s1 d1=>⟨O,ρ,E.same s1,((gk.bind hF).mono s1).imp λk hF y H2 s2 d2=>by
  obtain⟨d,hg,q⟩:=gk.rO hF;cases dd with
  |dct ks ds=>
   have hg:(oN ks ds).bind (λal=>(cy k).bind λq=>eB al q)=some d:=hg;cases hk:oN ks ds with
   |none=>rw[hk]at hg;cases hg
   |some al=>
    rw[hk]at hg;cases ht:cy k with
    |none=>rw[ht]at hg;cases hg
    |some qk=>
     rw[ht]at hg;have hg:eB al qk=some d:=hg;obtain⟨a,ea,hh⟩:=jk (d1.mono (aM s2)) hk;rw[dE ht]at d2;obtain⟨b,ws,eb,g1,g2⟩:=bh.mp d2;rw[b6 g2]at g1;rcases hh with⟨kvs,hr,e1,e2⟩|⟨_,rfl⟩
     ·rcases jz qk e1 e2 with⟨_,z2⟩|⟨w,d',z1,z2,z3⟩
      ·rw[z2]at hg;cases hg
      ·rw[z2]at hg;cases hg;exact⟨a,w,ea,by rw[<-z1];exact .inr ⟨kvs,qk,b,pK hr,eb,(aj H2 O) _ _ g1,rfl⟩,q w H2 (s1.trans s2) z3⟩
     ·cases hg
  |_=>cases hg⟩⟩⟩
end
section
variable[aq]
theorem rj{X:Cx}{pos:Pos}{x:Str}{e:Mb}{es:aX}{f:aN}{np cpos:Pos}{k k':Nat}{ps fs:ay}(hc:X.calm=true)(hx:X.ex=[])(RA:k7 X.prog X.w X.K X.mg X.base k x ps fs)(hr:eQ k' X.A)(hk':k+1<=k')(hg:Gl X x)(ha:XA X (e::es) f)(hdb:(x==("__debug__":Str))=false:=by decide)(hns:(e::es).all noStar=true:=by rfl):XS X (.Raise (some (.Call (.Name x np) (e::es) [] cpos)) none pos) (g8 x fs f):=⟨λHb Ob pins s σ H D I h=>by
 obtain⟨O,ρ,k1,r,S,hF,hk⟩:=h;obtain⟨C,fI,fd,cl,EI,F,hb,hm⟩:=RA;obtain⟨nm,q,N,bs,bm,hdct,sn,sub,ab,col,dd,l0,l1,l2,l3,l5,hcls⟩:=EI.cls;have st:Ms (e::es) X.env=_:=cC (Jc _ _ ▸ hns).1;rw[arm_exec_Raise];have hT:=(hcls _ I.kIn).2.2;refine My (M4 (se (C:=C) (nm:=nm) (q:=q) (N:=N) (bs:=bs) (bm:=bm) (hdct:=hdct) (sn:=sn) (sub:=sub) (ab:=ab) (col:=col) (dd:=dd) (k0:=l0) (k1:=l1) (k2:=l2) (k3:=l3) (k5:=l5) (newId:="ValueError.__new__") (hT.hasType PySem.F.excBase_ValueError.hasBase) (I.ok.hd hc) ?_));refine My (Mt ?_ (λv s' z=>My (M4 (Mx z))) λ_ _ z=>z);refine MK (oS I hg hm ?_ hdb);have A1:=ha.h cpos pins s σ H (λvs H1=>∃ds,vs.length=fs.length/\vs.length<=Mk/\aI H H1/\ax X.K (hid H1 O) ds vs/\k1.ex ⟨x,fs,ds⟩ ρ=r) I ⟨O,ρ,S.env,gk.on hF hk S λds e vs H' s' d'=>by
  cases z:(small ds.length&&ds.length==fs.length)with
  |false=>rw[z]at e;exact absurd e.symm hk.ne
  |true=>
   rw[z]at e;rw[Jc,beq_iff_eq]at z;exact⟨ds,by rw[<-d'.length];exact z.2,by rw[<-d'.length];exact bZ z.1,s',d',e⟩⟩
 refine Lf (h₀:=X.base) I.ok.mod.kin EI.kp (cg A1 λus s1 h1=>?_) st (dr (Jc _ _ ▸ hns).2);obtain⟨vs,H1,I1,rv,ds,hl,hz,sm,dn,hex⟩:=h1;refine⟨I1.kIn,?_⟩;obtain⟨hC,⟨mN,hN,hi⟩,T⟩:=hcls _ I1.kIn;obtain⟨oI,hoI,hcI⟩:∃o,s1.heap.get? fI=some o/\o.cls=.type "function":=by
  have z:(X.K.lookup fI).map (·.cls)=some (.type "function"):=EI.fn;cases y:X.K.lookup fI with
  |none=>rw[y]at z;cases z
  |some o=>rw[y]at z;exact⟨o,I1.kIn _ _ y,Option.some.inj z⟩
 refine mS (h:=s1.heap) (g:=s1.gens) (d:=s1.drawn) (t:=s1.toks) (os:=s1.os) L7 (by decide +kernel) L7 T hC hN hi hoI hcI (λh' ee m=>?_) (show us.length<=Mk by rw[<-rv.length];exact hz);obtain⟨t,m1,m2,m3⟩:=m.there;have nf:=mZ I1 hx m.new;have I2:=adopt (ob:=.ext (mX C ee t)) (I1.kept (t':=s1.toks) m.keeps) nf.1 nf.2.1 nf.2.2.1 nf.2.2.2.1 nf.2.2.2.2 (zQ ⟨_,m1,rfl,rfl,rfl⟩);have r2:Vals (V.ref ee::vs) (Value.ref ee::us):=.cons rfl rv;have dne:∀d,upd H1 ee (.ext (mX C ee t)) d=none->d≠ee:=λd z w=>by rw[w,ah]at z;cases z
 have spec:HL C fs (V.ref ee::vs) (upd H1 ee (.ext (mX C ee t))) (λv H3=>v=.non/\∃d,H1 d=none/\d≠ee/\H3=upd (upd H1 d (.own ee)) ee (.ext (eJ C ee t d (fs.zip vs)))) E0:=⟨ee,t,vs,rfl,hl,ah,λd hd ne=>⟨rfl,d,by rw[ai ne]at hd;exact hd,ne,by
  funext b;by_cases z:b=ee
  ·rw[z,ah,ah]
  ·rw[ai z,ai z];by_cases y:b=d
   ·rw[y,ah,ah]
   ·rw[ai y,ai z,ai y]⟩⟩
 have hlen:(Value.ref ee::us++[]).length=ps.length:=by
  have:=r2.length
  rw[F.len _ _ _ _ spec]at this;rw[IM];exact this.symm
 have hb':=hb {s1 with heap:=h'} (Value.ref ee::us) I2.kIn hlen;rw[IM]at hb';refine M9 (MY (F.run _ X.stack _ _ ⟨Value.ref ee::us,[]⟩ (Value.ref ee::us) _ _ E0 ((hr.mono hk').make C us []) (I2.env0.make C us []) hb' r2 spec) λr s' hq'=>?_);cases r with
 |error e=>exact Fi pins σ _ _ e s' I2 hq'
 |ok fl=>
  cases fl with
  |ret u=>
   obtain⟨v,H',I3,rv',⟨ev,d,hd,ne,eH⟩⟩:=I2.after hq';subst ev eH;refine⟨rv',?_⟩;obtain⟨I4,fl,sl,he⟩:=Bm I1 hx m.new hd I3;have s14:aI H1 (upd H1 d (.xd (fs.zip vs))):=λb o z=>by rw[ai (aP z hd)];exact z
   have dO:d∉O:=(S.env.all.same sm).not hd;exact⟨ee,t,some d,sl,rfl,(hcls _ I4.kIn).1,he,hk.ex O ρ σ _ _ (S.same (sm.trans s14)) hex pins s' _ _ I4 (aI.refl _) ⟨ee,C,some d,rfl,⟨cl,vs,dn.mono (aM s14),hl.symm,.inr ⟨d,rfl,by rw[cQ dO];exact ah⟩⟩,fl⟩⟩
  |next=>exact False.elim hq'
  |brk=>exact False.elim hq'
  |cont=>exact False.elim hq'⟩
end
section
variable[aq]{X:Cx}{pos:Pos}{a:Mb}{fa:FX}{f:Str}{cs:ay}
theorem zi(ok:vV X.K f cs)(h:XE X a fa)(hb:ME a f X.env (eval a X.env)=eval a X.env:=by rfl):XE X (.Attribute a f pos) (f1 (qY f cs) fa):=⟨PE.weak (zp h.h hb) λσ H Q q=>by
  obtain⟨O,ρ,E,hF⟩:=q;refine⟨O,ρ,E,(gk.bind hF).imp λdd hF v H1 s1 d1=>?_⟩;obtain⟨d,e,q⟩:=gk.rO hF;unfold qY at e;split at e
  ·rename_i c fs vs;obtain⟨hc,e⟩:cs.contains c=true/\(fs.zip vs).lookup f=some d:=by
    cases z:cs.contains c with
    |true=>rw[z]at e;exact⟨rfl,e⟩
    |false=>rw[z]at e;cases e
   obtain⟨ea,ws,rfl,d2,d3,C,dx,cl,he,hx⟩:=Gh.mp d1;obtain⟨F,n,hd⟩:=ok c (List.contains_iff_mem.mp hc) C cl;obtain⟨w,l,dw⟩:=lx d2 e;rcases hx with hx|⟨dd,rfl,hxd⟩
   ·subst hx;cases e
   ·exact⟨ea,C,dd,fs.zip ws,w,rfl,aj _ _ _ _ he,aj _ _ _ _ hxd,F,n,hd,l,q w H1 s1 dw⟩
  ·cases e⟩
end
section
variable[aq]{X:Cx}{pos:Pos}
theorem yq{es:aX}{k:Nat}{g:v8}{n:Nat}(hc:X.calm=true)(h:BK X es g)(hn:(assignEach es X.env).length=n:=by rfl)(hst:(assignEach es X.env).findIdx? (·.1)=none:=by rfl):XG X (.Tuple es k pos) (Gk n g):=by
 refine⟨?_⟩;rintro pins s σ H v u Q I r ⟨O,ρ,d,ρ',E,hd,hg,q⟩;cases d with
 |lst xs=>
  obtain⟨p,vs,ev,g1,g2⟩:=bn.mp hd;have hg':(if xs.length=n then g xs ρ else none)=some ρ':=hg;by_cases hl:xs.length=n
  ·rw[if_pos hl]at hg';subst ev;cases r;obtain⟨its,rv,⟨o,m,e1,e2,e3,e4⟩,hz⟩:=I.list ((aj H O).seq g1);have hL:s.heap.IsList p its.toArray:=⟨o,e1,e2,m,e4⟩
   have hsz:(assignEach es X.env).length=its.toArray.size:=by
    rw[hn,<-hl,g2.length,IL];exact rv.length
   rw[PyProof.Rows.assign_Tuple];refine My (M4 ?_);unfold unpack;rw[hsz,hst];refine My (MQ (PySem.W.kun_itemsOf (I.ok.hd hc) hL λh' hx=>?_));have I1:Inv X pins σ H {s with heap:=h'}:=I.kept (t':=s.toks) λb o e=>hx b o (Iw (Lv e)) e;exact h.h pins _ σ H vs _ Q I1 (by simpa using rv) ⟨O,ρ,xs,ρ',E,g2,hg',q⟩
  ·rw[if_neg hl]at hg';cases hg'
 |_=>cases hg
end
section
variable[aq]
theorem uL{X:Cx}{i:Nat}{x:Str}{ce idx value:Mb}{fe fk fv:FX}{npos spos tpos pos:Pos}(hu:X.A.units+64<MF)(hx:XV X (.Name x npos) i)(hce:XE X ce fe)(hi:XE X idx fk)(hv:XE X value fv)(hpl:jx ce)(hs:swapsWith value (some (.Subscript (.Subscript (.Name x npos) ce spos) idx tpos)) pos.line X.env=pure false:=by rfl):XS X (.Assign [.Subscript (.Subscript (.Name x npos) ce spos) idx tpos] value pos) (gh i gG fe fk fv):=⟨λHb Ob pins s σ H E I zq=>zq.elim λO zq=>zq.elim λρ zq=>zq.elim λk zq=>zq.elim λrr zq=>zq.elim λS zq=>zq.elim λhF hk=>by
 obtain⟨xs,y,c,kk,ys,hxs,ev,ee,ek,hg,hnx⟩:=lT hF hk.ne;obtain⟨c,ks,ds,al',rfl,hc,hp,rfl⟩:=qR hg;obtain⟨a,bs,l,ha,hHa,hl,lO,hat,fin⟩:=S.putN hxs hc;obtain⟨al,q,f1,f2,f3,f4,f5⟩:=mE hp;subst f1 f2 f3 f5;refine qA `o (xQ oz hx.h hce.h hpl) hi.h hv.h hs pins s σ H E I ⟨O,ρ,S.env,?_⟩;rw[ev];intro v H1 s1 d1;refine⟨.ref a,ha,O,ρ,(S.same s1).env,?_⟩;rw[ee];intro cv H2 s2 d2;obtain rfl:=dm.mp d2;have s12:=s1.trans s2;refine⟨a,bs.map .ref,(c:Int),.ref l,rfl,rfl,jG.of (s12 _ _ hHa),uz (by rw[IV,hl];rfl),O,ρ,(S.same s12).env,?_⟩;rw[ek];intro w H3 s3 d3;have s13:=s12.trans s3;obtain⟨b,ws,eb,g1,g2⟩:=bh.mp d3;rw[b6 g2]at g1;have hat2:bT X.K H3 O l (az al):=hat.mono (let ⟨_,z⟩:=hat.some;iS s13 z) (aM s13);have dv:bv X.K (hid H3 O) y v:=d1.mono (aM (s2.trans s3));have ow:∀kvs:List (List Key×V),kvs.map (·.1)=al.map (·.1)->ax X.K (hid H3 O) (al.map (·.2)) (kvs.map (·.2))->bT X.K (upd H3 l (.dT (putK kvs q v))) O l (az (cn al q y)):=λkvs k2 k3=>
  ⟨_,_,ah,(oC dv k2 k3).mono (dI lO),.inr ⟨putK kvs q v,rfl,kz (lQ k2 q v y),rfl⟩⟩
 rcases zh hat2 with⟨kvs,k1,k2,k3⟩|⟨k1,rfl⟩
 ·have hl:kvs.length=al.length:=by have:=congrArg List.length k2;simpa using this
  exact⟨l,q,b,kvs,rfl,eb,(aj H3 O) _ _ g1,.inl k1,by rw[hl];exact JP (of_decide_eq_true f4) (by decide),hk.nx O _ σ _ (fin _ _ _ s13 trivial (ow kvs k2 k3)) hnx⟩
 ·exact⟨l,q,b,[],rfl,eb,(aj H3 O) _ _ g1,.inr ⟨k1,rfl⟩,by decide,hk.nx O _ σ _ (fin _ _ _ s13 trivial (ow [] rfl (bB.mpr rfl))) hnx⟩⟩
theorem vU{X:Cx}{i:Nat}{x:Str}{ce ke ve:Mb}{fe fk fv:FX}{npos spos ap cp pos:Pos}(hu:X.A.units+64<MF)(hx:XV X (.Name x npos) i)(hce:XE X ce fe)(hke:XE X ke fk)(hve:XE X ve fv)(hpl:jx ce)(hn1:noStar ke=true:=by rfl)(hn2:noStar ve=true:=by rfl)(hb2:ME (.Subscript (.Name x npos) ce spos) "pop" X.env (eval (.Subscript (.Name x npos) ce spos) X.env)=eval (.Subscript (.Name x npos) ce spos) X.env:=by rfl)(hf2:((backTo cp (Ms [ke,ve] X.env)).all (λx=>!x.1)&&(backToKw cp (MV [] X.env)).all (λx=>x.1.isSome)&&decide (([ke,ve]:aX).length+([]:List MX).length+(if([]:List MX).isEmpty then 0 else 1)<30))=true:=by rfl)(hl2:(ap.endLine==cp.line)=true:=by rfl)(hp2:(backTo cp (Ms [ve] X.env)).any (·.1)=false:=by rfl)(hsw:swapsWith (.Call (.Attribute (.Subscript (.Name x npos) ce spos) "pop" ap) [ke,ve] [] cp) none pos.line X.env=pure false:=by rfl):XS X (.Expr (.Call (.Attribute (.Subscript (.Name x npos) ce spos) "pop" ap) [ke,ve] [] cp) pos) (gh i gP fe fk fv):=⟨λHb Ob pins s σ H E I zq=>zq.elim λO zq=>zq.elim λρ zq=>zq.elim λk zq=>zq.elim λrr zq=>zq.elim λS zq=>zq.elim λhF hk=>by
 obtain⟨xs,y,c,kk,ys,hxs,ev,ee,ek,hg,hnx⟩:=lT hF hk.ne;obtain⟨c,al,q,rfl,hc,rfl,rfl⟩:=qH hg;obtain⟨a,bs,l,ha,hHa,hl,lO,hat,fin⟩:=S.putN hxs hc;refine tq (BU F.plainAttrs_dict F.slot_dict_pop F.type_dict_pop (Ao hu) (xQ oz hx.h hce.h hpl) (tN hke.h (tN hve.h C4 hn2) hn1) hb2 hf2 hl2 (cC hn1) hp2) hsw pins s σ H E I ?_;refine⟨.ref a,ha,O,ρ,S.env,?_⟩;rw[ee];intro cv H2 s2 d2;obtain rfl:=dm.mp d2;have hat2:bT X.K H2 O l (az al):=hat.mono (let ⟨_,z⟩:=hat.some;iS s2 z) (aM s2);refine⟨a,bs.map .ref,(c:Int),.ref l,rfl,rfl,jG.of (s2 _ _ hHa),uz (by rw[IV,hl];rfl),.inr (.inr (.inl ⟨rfl,?_⟩)),O,ρ,(S.same s2).env,?_⟩
 ·rcases zh hat2 with⟨kvs,k1,_⟩|⟨k1,_⟩
  ·exact .inr ⟨_,k1⟩
  ·exact .inl ⟨_,k1⟩
 have e1:(af fk (af fv ao)) ρ=.ok [.tup (q.map aJ),y]:=by
  show(fk ρ).bind _=_;rw[ek];show Except.bind ((fv ρ).bind _) _=_;rw[ev];rfl
 rw[e1];intro vs H3 s3 dv;obtain⟨w1,w2,ew,d3,d4⟩:=dv.two;have s13:=s2.trans s3;obtain⟨b,ws,eb,g1,g2⟩:=bh.mp d3;rw[b6 g2]at g1;have hat3:bT X.K H3 O l (az al):=hat.mono (let ⟨_,z⟩:=hat.some;iS s13 z) (aM s13);subst eb;rcases zh hat3 with⟨kvs,k1,k2,k3⟩|⟨k1,rfl⟩
 ·obtain⟨e2,d5⟩:=wU (K:=X.K) (H:=hid H3 O) q k2 k3;exact⟨l,b,q,kvs,w2,rfl,ew,(aj H3 O) _ _ g1,.inl k1,hk.nx O _ σ _ (fin _ _ (az (g6 al q)) s13 trivial ⟨_,_,ah,d5.mono (dI lO),.inr ⟨_,rfl,kz e2,rfl⟩⟩) hnx⟩
 ·exact⟨l,b,q,[],w2,rfl,ew,(aj H3 O) _ _ g1,.inr ⟨k1,rfl⟩,hk.nx O _ σ _ (fin _ _ (az (g6 [] q)) s13 trivial ⟨_,[],ah,bB.mpr rfl,.inr ⟨[],rfl,rfl,rfl⟩⟩) hnx⟩⟩
end
section
variable[aq]{X:Cx}{o e:Mb}{apos cpos:Pos}
theorem vb{fo fk : FX}(hu : X.A.units + 64 < MF)(ho : XE X o fo)(he : XE X e fk)(hbase : ME o "get" X.env (eval o X.env) = eval o X.env := by rfl)(hfew : ((backTo cpos (Ms [e] X.env)).all (fun x => !x.1) && (backToKw cpos (MV [] X.env)).all (fun x => x.1.isSome)
      && decide (([e]:aX).length+([]:List MX).length+(if([]:List MX).isEmpty then 0 else 1)<30))=true:=by rfl)(hline:(apos.endLine==cpos.line)=true:=by rfl)(htr:backTo cpos (Ms [e] X.env)=[(false,eval e X.env)]:=by rfl):XE X (.Call (.Attribute o "get" apos) [e] [] cpos) (cJ fo fk):=⟨PE.weak (uG `o ho.h he.h ⟨hbase,hfew,hline,htr⟩) λσ H Q zq=>zq.elim λO zq=>zq.elim λρ zq=>zq.elim λE hF=>⟨O,ρ,E,(gk.bind hF).imp λdd hF v H1 s1 d1=>by
    cases dd with
    |dct ks ds=>
      obtain⟨a,vs,rfl,_,hd⟩:=id (Gm.mp d1);refine⟨a,rfl,?_,O,ρ,E.same s1,((gk.bind hF).mono s1).imp λk hF y H2 s2 d2=>?_⟩
      · rcases hd with⟨kvs,e1,_⟩|⟨kvs,e1,_⟩|⟨kvs,o,e1,_⟩
        ·exact .inl ⟨kvs,.inl ((aj H1 O) _ _ e1)⟩
        ·exact .inr ⟨kvs,.inl ((aj H1 O) _ _ e1)⟩
        ·exact .inr ⟨kvs,.inr ⟨o,(aj H1 O) _ _ e1⟩⟩
      · obtain⟨d,hg,q⟩:=gk.rO hF
        have hg:(oN ks ds).bind (λal=>(cy k).map λq=>(eB al q).getD .non)=some d:=hg;obtain⟨al,hk,hg⟩:=Option.bind_eq_some_iff.mp hg;obtain⟨qk,ht,rfl⟩:=Option.map_eq_some_iff.mp hg;obtain⟨a',ea,hh⟩:=jk (d1.mono (aM s2)) hk;cases ea;rw[dE ht]at d2;obtain⟨b,ws,eb,g1,g2⟩:=bh.mp d2;rw[b6 g2]at g1;have g1':=(aj H2 O) _ _ g1;subst eb;have dn:bv X.K (hid H2 O) .non .non:=fP.mpr rfl;rcases hh with⟨kvs,k1,k2,k3⟩|⟨k1,rfl⟩
        · refine⟨dJ kvs qk,.inl (.inr ⟨kvs,qk,b,pK k1,rfl,g1',rfl⟩),q _ H2 (s1.trans s2) ?_⟩
          rcases jz qk k2 k3 with⟨z1,z2⟩|⟨w,d,z1,z2,z3⟩
          ·rw[z1,z2];exact dn
          ·rw[z1,z2];exact z3
        ·exact⟨none,.inr ⟨(aj H2 O) _ _ k1,rfl,b,qk,rfl,g1'⟩,q _ H2 (s1.trans s2) dn⟩
    |_=>exact hF.elim⟩⟩
end
section
variable[aq]
theorem rV{X:Cx}{st:cq}{F:bG}(i:Nat)(h:lD X st F):lD X st (j8 i F):=⟨λHb Ob pins s σ H E I zq=>zq.elim λO zq=>zq.elim λρ zq=>zq.elim λk zq=>zq.elim λr zq=>zq.elim λS zq=>zq.elim λhF hk=>by
 unfold j8 we at hF;split at hF
 ·rename_i xs hd;split at hF
  ·rename_i as hal
   have:=qV hal
   subst this;obtain⟨a,bs,h1,⟨xs',hO,hat⟩,nd,h4,h5⟩:=S.nst i _ hd;obtain⟨rfl,hHa⟩:xs'=as.map az/\H a=some (.lst (bs.map .ref)):=by
    rcases hat with⟨e,q⟩|⟨_,e,_⟩|⟨e,_⟩
    ·injection e with e;exact⟨e.symm,q⟩
    ·cases e
    ·cases e
   obtain⟨na,nb⟩:=List.nodup_cons.mp nd;obtain⟨H1,I1,t1,k1,f1⟩:=tG hO nb (λ_ _=>rfl) (λb hb=>(h4 b (IC _ hb)).1) S.env.all I S.env.all.1;refine h.h Hb Ob pins s σ _ E I1 ⟨_,_,k,r,S.frzB hd h1 h4 h5 (λb hb=>k1 b λz=>hb (IC _ z)) t1 λsm nn=>?_,hF,hk⟩;exact bn.mpr ⟨a,_,rfl,jG.of (by rw[cQ (nn a IB),k1 a na];exact hHa),f1.den sm λb hb=>nn b (IC _ hb)⟩
  ·exact h.h Hb Ob pins s σ H E I ⟨O,ρ,k,r,S,hF,hk⟩
 ·exact h.h Hb Ob pins s σ H E I ⟨O,ρ,k,r,S,hF,hk⟩⟩
theorem xN{X:Cx}{tg e:Mb}{f:FX}(ho:XE X e f):XI X tg e (jl f):=by
 refine⟨?_⟩;rintro pins s σ H RR I ⟨O,ρ,E,hG⟩;refine cg (ho.h pins s σ H (λv H1=>∃a o kvs,v=.ref a/\H1 a=some (.frz o (.dT kvs))/\RR (Gu a o kvs) H1) I ⟨O,ρ,E,(gk.bind hG).imp λd hG v H1 s1 d1=>?_⟩) λv s1 zq=>zq.elim λx zq=>zq.elim λH1 zq=>zq.elim λI1 zq=>zq.elim λr1 zq=>zq.elim λa zq=>zq.elim λo zq=>zq.elim λkvs zq=>zq.elim λex zq=>zq.elim λha hR=>?_
 ·obtain⟨ds,hg,q⟩:=gk.rO hG;unfold sR at hg;split at hg
  ·rename_i ks dl;cases e1:dS ks dl with
   |none=>rw[e1]at hg;cases hg
   |some al=>
    rw[e1]at hg;cases hg;obtain⟨f1,f2⟩:=dG e1;subst f1 f2;obtain⟨a,o,kvs,q1,q2,q3,q4⟩:=qL d1;exact⟨a,o,kvs,q1,(aj H1 O) _ _ q2,q _ H1 s1 (rq q2 q3)⟩
  ·cases hg
 ·subst ex;cases r1;obtain⟨hob,hx,hsm,es2,ep,xs,hda,_⟩:=rY I1 ha;refine nK hsm hob hx hda ?_;refine⟨_,_,_,_,H1,rfl,I1.kept (t':=s1.toks) λb u e=>Ly _ e,uK hda,⟨_,Lz _ rfl,rfl,rfl⟩,λb hb=>?_,hR⟩;rw[List.mem_singleton.mp hb];exact I1.fpOk (IJ _) (I1.hok.fresh (IJ _))
end
section
variable[aq]{X:Cx}
theorem xX{x:Str}{p pos:Pos}{e:Mb}{f:aN}(hc:X.calm=true)(hu:X.A.units+64<MF)(hg:Gl X x)(hm:X.mg x=none)(hv:Mm x=some (.type "dict"))(ha:XA X [e] f)(hn:x≠"__name__":=by decide)(hdb:(x==("__debug__":Str))=false:=by decide)(hns:noStar e=true:=by rfl):XN X (.Call (.Name x p) [e] [] pos) (fL gY f):=⟨PE.weak (kA (sG hc hu) hg hm hv ha.h hn hdb (cC hns) (dr rfl)) λσ H Q zq=>zq.elim λO zq=>zq.elim λρ zq=>zq.elim λE hF=>⟨O,ρ,E,(gk.bind hF).imp λds hF vs H1 s1 d1=>by
  obtain⟨d,hg,q⟩:=gk.rO hF;unfold gY at hg;split at hg
  ·rename_i ys;obtain⟨ps,hp,hg⟩:=Option.bind_eq_some_iff.mp hg;obtain⟨sm,rfl⟩:=bg hg;obtain⟨v,ev,h1⟩:=d1.one;obtain⟨p,ws,ep,g1,g2⟩:=bn.mp h1;rw[jX hp]at g2;exact⟨O,ps,ws,p,by rw[ev,ep],E.all.same s1,(aj H1 O).seq g1,g2,sm,λl kvs' hl k1 k2=>q l _ (s1.trans (aW hl _)) (s1.free hl) ⟨_,ah,trivial⟩ ⟨_,_,ah,k2.mono (eT hl),.inr ⟨kvs',rfl,kz k1,rfl⟩⟩⟩
  ·cases hg⟩⟩
end
theorem Ag{X:Cx}{pos:Pos}{body suite:cq}{b₀:Md}{g n:Str}{gp hpos:Pos}{F Fh:bG}{cs:ay}{i:Nat}(hx:X.ex=[])(hst:X.stack=X.env::X.outer)(hf:X.env.frame=some X.env.locals)(hfn:∀x,X.fn x=true)
  (hT:qU X.K X.mg g cs) (hg:Gl X g) (hN:X.N.Nodup) (hi:X.N[i]?=some n) (hl:X.env.scope.names.lookup n=some .local)
  (hb:∀E pn,Mv `i X.A X.env E->lD (qD X E pn) body F) (hs:∀A pn,A.depth=X.A.depth->A.units=X.A.units->lD (lP X A pn) (b₀::suite) Fh) (hdb:(g==("__debug__":Str))=false:=by decide):
  XS X (.Try body [.ExceptHandler (some (.Name g gp)) (some n) (b₀::suite) hpos] [] [] pos) (xW cs i F Fh):=⟨TG.GZ hx hst hf hfn hT hg hN hi hl (λE pn hp=>(hb E pn hp).h) (λA pn h1 h2=>(hs A pn h1 h2).h) hdb⟩
noncomputable abbrev Lk(K:KZ)(f:Ma)(nm qual:Str)(st:Md)(oc:L8)(od:Option Ma)(kV dc pm:L8)(an:Option Ma)(cd ct:L8)(sl:Array (Option L8)):Prop:=K.lookup f=some ⟨oc,od,.func (K4 nm qual (fV st) (cz st) (aC st) .none kV dc pm an cd ct),sl⟩
structure wq(P:Mh)(w:Mg)(K:KZ)(mg:bU)(base:Mj)(k:Nat)(N:ay)(qual:Str)(st:Md)(f:Ma)(B:bG):Prop where
 h:∀(cdv:L8)(A:Mo)(outer:List Env)(s:Mf)(H:Hp)(E:XK),eQ k (A.deeper (LN qual (aC st) s.heap.objs.size f cdv))->Mv (model P w) (A.deeper (LN qual (aC st) s.heap.objs.size f cdv)) (LN qual (aC st) s.heap.objs.size f cdv) (gI (kT P w) P w K mg base N qual (aC st) f cdv A outer s H E).xe->
  lD (gI (kT P w) P w K mg base N qual (aC st) f cdv A outer s H E) (cz st) B
theorem wq.ok{P:Mh}{w:Mg}{K:KZ}{mg:bU}{base:Mj}{k:Nat}{N:ay}{qual:Str}{st:Md}{f:Ma}{B:bG}(h:wq P w K mg base k N qual st f B):BodyOk P w K mg base k N qual st f B:=⟨λcdv A outer s H E hr hp=>(h.h cdv A outer s H E hr hp).h⟩
section
variable{X:Cx}{x:Str}{pos:Pos}
theorem xw(i:Nat)(hN:X.N[i]?=some x:=by rfl)(hv:Dk X.env.scope x:=by first|exact Or.inl rfl|exact Or.inr (Or.inl rfl)|exact Or.inr (Or.inr rfl))(hd:(x==("__debug__":Str))=false:=by decide)(hcd:(x==("__classdict__":Str))=false:=by decide):XE X (.Name x pos) (aa i):=AX (xv i hN hv hd hcd)
theorem xi{a b:Mb}{fa fb:FX}(ha:XE X a fa)(hb:XE X b fb)(hs:jx b:=by exact λ_ _=>rfl):XE X (.Subscript a b pos) (f2 aR fa fb):=CV ha hb hs
theorem xs(i:Nat){e:Mb}{f:FX}{pos':Pos}(hN:X.N.Nodup)(he:XE X e f)(hi:X.N[i]?=some x:=by rfl)(hx:Loc X.env.scope x:=by first|exact Or.inl rfl|exact Or.inr rfl)(hs:swapsWith e (some (.Name x pos')) pos.line X.env=pure false:=by rfl)(hf:X.fn x=true\/X.env.scope.names.lookup x=some .local:=by first|exact .inl rfl|exact .inr rfl|assumption):XS X (.Assign [.Name x pos'] e pos) (bF i f):=AY hN hi hx he hs hf
end
noncomputable def G0:ay->Bool
 |[]=>true
 |x::r=>!(r.contains x)&&G0 r
theorem mi{l:ay}(h:G0 l=true):l.Nodup:=by
 induction l with
 |nil=>exact Jr
 |cons x r ih=>
  simp only[G0,Jc,J4]at h;exact List.nodup_cons.mpr ⟨λm=>by rw[List.contains_iff_mem.mpr m]at h;exact absurd h.1 (by decide),ih h.2⟩
noncomputable def zl:Mb->ay
 |.Name x _=>[x]
 |.Tuple es _ _=>es.filterMap λe=>match e with
  |.Name x _=>some x
  |_=>none
 |_=>[]
noncomputable def vd(N:ay):dA->ay->ay
 |[],_=>[]
 |some j::r,t=>N.getD j ""::vd N r t
 |none::r,x::t=>x::vd N r t
 |none::r,[]=>""::vd N r []
section
variable{X:Cx}{elt tg iter:Mb}{ifs:aX}{scope:Mp}{ix:dA}{G:aN}{g:GF}{C:aY}{Fe:FX}{i:Nat}{y:Str}{lpos py pos:Pos}
theorem xl(hc:X.calm=true)(tk:kW ix g)(hi:XI X tg iter G)(hb:mV X scope (vd X.N ix (zl tg)) tg elt ifs g C Fe)(ok:fT X.env.scope.names X.N scope (vd X.N ix (zl tg)) ix=true:=by rfl)(hs:∀x,Mz iter X.env x=pure x:=by intro _;rfl):XE X (.ListComp elt [⟨tg,iter,ifs,0⟩] scope pos) (fW ix G g C Fe):=CP hc (.of ok) tk hi hb hs
theorem HR(hc:X.calm=true)(tk:kW ix g)(hi:XI X tg iter G)(hb:mV X scope (vd X.N ix (zl tg)) tg elt ifs g C Fe)(ok:fT X.env.scope.names X.N scope (vd X.N ix (zl tg)) ix=true:=by rfl)(hs:∀x,Mz iter X.env x=pure x:=by intro _;rfl):XN X (.ListComp elt [⟨tg,iter,ifs,0⟩] scope pos) (fW ix G g C Fe):=CW hc (.of ok) tk hi hb hs
theorem Il(hN:X.N.Nodup)(hc:X.calm=true)(tk:kW ix g)(hi:XI X tg iter G)(hb:mV X scope (vd X.N ix (zl tg)) tg elt ifs g C Fe)(hi':X.N[i]?=some y:=by rfl)(hx:Loc X.env.scope y:=by first|exact Or.inl rfl|exact Or.inr rfl)(ok:fT X.env.scope.names X.N scope (vd X.N ix (zl tg)) ix=true:=by rfl)(hsw:swapsWith (.ListComp elt [⟨tg,iter,ifs,0⟩] scope lpos) (some (.Name y py)) pos.line X.env=pure true:=by rfl)(hs:∀x,Mz iter X.env x=pure x:=by intro _;rfl)(hf:X.fn y=true\/X.env.scope.names.lookup y=some .local:=by first|exact .inl rfl|exact .inr rfl|assumption):XS X (.Assign [.Name y py] (.ListComp elt [⟨tg,iter,ifs,0⟩] scope lpos) pos) (bF i (fW ix G g C Fe)):=CU hN hi' hx hc (.of ok) tk hi hb hsw hs hf
theorem HY{dp:Pos}(hN:X.N.Nodup)(hc:X.calm=true)(hi:XI X tg iter G)(hb:∀cl C' fp s H E,XG (bf X scope (vd X.N [none] (zl tg)) cl C' fp s H E) tg (gN 0))(hi':X.N[i]?=some y:=by rfl)(hx:Loc X.env.scope y:=by first|exact Or.inl rfl|exact Or.inr rfl)(ok:fT X.env.scope.names X.N scope (vd X.N [none] (zl tg)) [none]=true:=by rfl)(hsw:swapsWith (.ListComp (.Dict [] [] dp) [⟨tg,iter,[],0⟩] scope lpos) (some (.Name y py)) pos.line X.env=pure true:=by rfl)(hs:∀x,Mz iter X.env x=pure x:=by intro _;rfl)(hf:X.fn y=true\/X.env.scope.names.lookup y=some .local:=by first|exact .inl rfl|exact .inr rfl|assumption):XS X (.Assign [.Name y py] (.ListComp (.Dict [] [] dp) [⟨tg,iter,[],0⟩] scope lpos) pos) (gZ i G):=⟨TG.FH hN hi' hx hc (.of ok) hi.h (λcl C' fp s H E=>(hb cl C' fp s H E).h) hsw hs hf⟩
theorem Ih(hN:X.N.Nodup)(hc:X.calm=true)(tk:kW ix g)(hi:XI X tg iter G)(hb:mV X scope (vd X.N ix (zl tg)) tg elt ifs g C Fe)(hi':X.N[i]?=some y:=by rfl)(hx:Loc X.env.scope y:=by first|exact Or.inl rfl|exact Or.inr rfl)(ok:fT X.env.scope.names X.N scope (vd X.N ix (zl tg)) ix=true:=by rfl)(hsw:swapsWith (.ListComp elt [⟨tg,iter,ifs,0⟩] scope lpos) (some (.Name y py)) pos.line X.env=pure true:=by rfl)(hs:∀x,Mz iter X.env x=pure x:=by intro _;rfl)(hf:X.fn y=true\/X.env.scope.names.lookup y=some .local:=by first|exact .inl rfl|exact .inr rfl|assumption):XS X (.Assign [.Name y py] (.ListComp elt [⟨tg,iter,ifs,0⟩] scope lpos) pos) (i5 i (fW ix G g C Fe)):=uM hN hi' hx hc (.of ok) tk hi hb hsw hs hf
end
structure U where
 P:Mh
 w:Mg
 K:KZ
 mg:bU
 base:Mj
 cL:Ma
 T:Ma
noncomputable abbrev Ca(u:U)(k:Nat)(x:Str)(ps:ay)(g:List D->R D):Prop:=Callee u.P u.w u.K u.mg u.base k x ps g
noncomputable def Df(u:U)(x:Str)(st:Md):Prop:=∃f fd,wa u.K x x st f fd/\u.mg x=some (.ref f)
noncomputable def Bd(x qual:Str)(st:Md)(ps:ay):Prop:=∀us:aF,us.length=ps.length->∀(kV doc pm:L8)(an:Option Ma)(cdv ct:L8),bindArgs (K4 x qual (fV st) (cz st) (aC st) .none kV doc pm an cdv ct) ⟨us,[]⟩=pure (ps.zip us)
theorem wa.bd{K:KZ}{x qual:Str}{st:Md}{f:Ma}{fd:MH}{ps:ay}(F:wa K x qual st f fd)(h:Bd x qual st ps):Binds K fd ps []:=F.binds λkV doc pm an cdv ct us e=>h us e kV doc pm an cdv ct
section
variable{u:U}{x c m qual:Str}{st:Md}{ps:ay}{k:Nat}{B:bG}
theorem Ig(M:ay)(d:Df u x st)(b:Bd x x st ps)(sc:dq (ps++M) ps (aC st))(h:(ps++M).Nodup->∀f,wq u.P u.w u.K u.mg u.base k (ps++M) x st f B):Ca u (k+1) x ps (bH B ps.length (ps++M).length):=by
 obtain⟨f,fd,F,e⟩:=d;exact vA F (wa.bd F b) e sc (h sc.nd f).ok
theorem HX(M:ay){f:Ma}{fd:MH}(F:wa u.K x x st f fd)(sc:dq (ps++M) ps (aC st))(h:(ps++M).Nodup->wq u.P u.w u.K u.mg u.base k (ps++M) x st f B):iW u.P u.w u.K u.mg u.base (kT u.P u.w) (k+1) f fd ps (BH u.K ps.length (bH B ps.length (ps++M).length)):=ug F sc (h sc.nd).ok
end
noncomputable def KD(K:KZ)(x:Str)(st:Md):Prop:=∃f oc od kV dc pm an cd ct sl,Lb K Ml x=some (some (.ref f))/\Lk K f x x st oc od kV dc pm an cd ct sl/\K8 K cd x=true/\La K (.ref f)=true
theorem KD.mk{K:KZ}{x:Str}{st:Md}{f:Ma}{oc:L8}{od:Option Ma}{kV dc pm:L8}{an:Option Ma}{cd ct:L8}{sl:Array (Option L8)}(a:Lb K Ml x=some (some (.ref f)))(l:Lk K f x x st oc od kV dc pm an cd ct sl)(c:K8 K cd x=true)(k:La K (.ref f)=true):KD K x st:=⟨f,oc,od,kV,dc,pm,an,cd,ct,sl,a,l,c,k⟩
noncomputable def KDs(K:KZ):List (Str×Md)->Prop
 |[]=>True
 |p::r=>KD K p.1 p.2/\KDs K r
theorem KDs.mk{K:KZ}{x:Str}{st:Md}{r:List (Str×Md)}(h:KD K x st)(t:KDs K r):KDs K ((x,st)::r):=⟨h,t⟩
noncomputable def GD(u:U)(Z:Prop):List (Str×Md)->Prop
 |[]=>Z
 |p::r=>GD u Z r/\Df u p.1 p.2
noncomputable def KZs(K:KZ):ay->Prop
 |[]=>True
 |x::r=>Lb K Ml x=some none/\KZs K r
theorem KZs.mk{K:KZ}{x:Str}{r:ay}(h:Lb K Ml x=some none)(t:KZs K r):KZs K (x::r):=⟨h,t⟩
noncomputable def Zs(u:U):ay->Prop
 |[]=>True
 |x::r=>Zs u r/\u.mg x=none
section
variable{u:U}{h:Mj}
theorem GD.of{Z:Prop}(X:u.K.In h)(G:h.Ns Ml u.mg)(z:Z):∀{l:List (Str×Md)},KDs u.K l->GD u Z l
 |[],_=>z
 |_::_,h=>by
  obtain⟨⟨_,_,_,_,_,_,_,_,_,_,a,l,c,k⟩,r⟩:=h;exact⟨GD.of X G z r,_,_,sx l c k,Lr X G a⟩
theorem Zs.of(X:u.K.In h)(G:h.Ns Ml u.mg):∀{l:ay},KZs u.K l->Zs u l
 |[],_=>trivial
 |_::_,⟨a,r⟩=>⟨Zs.of X G r,PySem.W.mg_none_of X G a⟩
end
theorem Ae{us:aF}{n:Nat}(h:us.length=n+1):∃a r,us=a::r/\r.length=n:=by
 cases us with
 |nil=>cases h
 |cons a r=>exact⟨a,r,rfl,Nat.succ.inj h⟩
theorem Et{us:aF}(h:us.length=1):∃a,us=[a]:=List.length_eq_one_iff.mp h
theorem CG{us:aF}(h:us.length=2):∃a b,us=[a,b]:=by
 obtain⟨a,r,rfl,k⟩:=Ae h;obtain⟨b,rfl⟩:=Et k;exact⟨a,b,rfl⟩
theorem Fb{us:aF}(h:us.length=3):∃a b c,us=[a,b,c]:=by
 obtain⟨a,r,rfl,k⟩:=Ae h;obtain⟨b,c,rfl⟩:=CG k;exact⟨a,b,c,rfl⟩
theorem EF{us:aF}(h:us.length=4):∃a b c d,us=[a,b,c,d]:=by
 obtain⟨a,r,rfl,k⟩:=Ae h;obtain⟨b,c,d,rfl⟩:=Fb k;exact⟨a,b,c,d,rfl⟩
theorem G8{us:aF}(h:us.length=5):∃a b c d e,us=[a,b,c,d,e]:=by
 obtain⟨a,r,rfl,k⟩:=Ae h;obtain⟨b,c,d,e,rfl⟩:=EF k;exact⟨a,b,c,d,e,rfl⟩
end TX
namespace TG
open L2
instance(priority:=low) noTabs:aq:=⟨λ_=>True,λ_ _=>trivial,λ_ _ _=>trivial⟩
open PySem PySem.Spec L2
theorem nr{α:Sort _}{a b:α}(h:a=b):a=b:=h
theorem cO{α β:Type}(a:α)(f:α->R β):Except.bind (Except.ok a:R α) f=f a:=nr rfl
theorem oo{α β:Type}(x:Option Ex)(f:α->R β):Except.bind (Except.error x:R α) f=.error x:=nr rfl
theorem nV{α:Type}(a:α)(k:Ks)(ρ:ak)(f:α->R D):kS (.ok a) k ρ f=f a:=nr rfl
theorem ol{α:Type}(x:Ex)(k:Ks)(ρ:ak)(f:α->R D):kS (.error (some x)) k ρ f=k.ex x ρ:=nr rfl
theorem fM{α:Type}(a:α):pM (.ok a:R α)=.ok a:=nr rfl
theorem cA{α:Type}(a:α):rO (some a)=.ok a:=nr rfl
theorem ge_0(d:D)(ρ:ak):mR (some (.val d)::ρ) 0=.ok d:=rfl
theorem uX(x:Option S)(ρ:ak)(i:Nat):mR (x::ρ) (i+1)=mR ρ i:=rfl
theorem jJ(i:Nat)(ρ:ak):aa i ρ=mR ρ i:=rfl
theorem vN(d:D)(ρ:ak):fC d ρ=.ok d:=rfl
theorem ko(ρ:ak):ao ρ=.ok []:=rfl
theorem hV(f:FX)(g:aN)(ρ:ak):af f g ρ=(f ρ).bind λx=>(g ρ).bind λxs=>.ok (x::xs):=rfl
theorem jW(g:aN)(ρ:ak):bJ g ρ=(g ρ).bind λxs=>rO (cS xs):=rfl
theorem jO(g:aN)(ρ:ak):dD g ρ=(g ρ).bind λxs=>rO (eU xs):=rfl
theorem vD(g:D->aU)(f:FX)(ρ:ak):f1 g f ρ=(f ρ).bind λa=>rO (g a):=rfl
theorem vk(g:D->D->aU)(f h:FX)(ρ:ak):f2 g f h ρ=(f ρ).bind λa=>(h ρ).bind λb=>rO (g a b):=rfl
theorem u9(f:FX)(ρ:ak):fB f ρ=(f ρ).bind λd=>rO (Hk d):=rfl
theorem vB(g:List D->aU)(f:aN)(ρ:ak):fL g f ρ=(f ρ).bind λds=>rO (g ds):=rfl
theorem vm(g:List D->R D)(f:aN)(ρ:ak):fR g f ρ=(f ρ).bind g:=nr rfl
theorem j0(f:aY)(ρ:ak):vC f ρ=(f ρ).bind λb=>.ok (!b):=rfl
theorem kJ(f g:aY)(ρ:ak):pp f g ρ=(f ρ).bind λb=>if b then g ρ else .ok false:=rfl
theorem m5(f g:aY)(ρ:ak):zm f g ρ=(f ρ).bind λb=>if b then .ok true else g ρ:=rfl
theorem fN(f:FX)(ρ:ak):ka f ρ=(f ρ).bind λd=>rO (truth d):=rfl
theorem ii(f g:FX)(ρ:ak):Es f g ρ=(f ρ).bind λd=>rA d (g ρ):=rfl
theorem kH(f g:FX)(ρ:ak):GB f g ρ=(f ρ).bind λd=>EW d (g ρ):=rfl
theorem iy(f:FX)(ρ:ak):E5 f ρ=(f ρ).bind λa=>rO (C8 a):=rfl
theorem nF(t:aY)(f g:FX)(ρ:ak):HS t f g ρ=(t ρ).bind λc=>if c then f ρ else g ρ:=rfl
theorem jT(T:String)(f:FX)(ρ:ak):kG T f ρ=(f ρ).bind λa=>rO (zY T a):=rfl
theorem kx(f:FX)(ρ:ak):Hw f ρ=(f ρ).bind λa=>.ok (.bl (isNon a)):=rfl
theorem iF(f:FX)(ρ:ak):E6 f ρ=(f ρ).bind λa=>.ok (.bl (!isNon a)):=rfl
theorem jN(f:FX)(ρ:ak):y0 f ρ=(f ρ).bind λa=>rO (DY a):=rfl
theorem fJ(f:FX)(ρ:ak):DK f ρ=(f ρ).bind λa=>rO (yo a):=rfl
theorem kr(f:FX)(ρ:ak):HA f ρ=(f ρ).bind λa=>rO (Dm a):=rfl
theorem fA(g g':D->D->aU)(fa fb fc:FX)(ρ:ak):Dy g g' fa fb fc ρ=(fa ρ).bind λx=>(fb ρ).bind λy=>(rO (g x y)).bind λz=>rA z ((fc ρ).bind λw=>rO (g' y w)):=rfl
theorem eZ(f:FX)(ρ:ak):bq f ρ=(f ρ).bind λd=>rO (lL d):=rfl
theorem dQ(f:aN)(ρ:ak):cB f ρ=(f ρ).bind λds=>rO (lw ds):=rfl
theorem dM(f:aN)(ρ:ak):z7 f ρ=(f ρ).bind λds=>rO (ud ds):=rfl
theorem ki(f:aN)(ρ:ak):Hf f ρ=(f ρ).bind λds=>rO (ED ds):=rfl
theorem g9(f:aN)(ρ:ak):rG f ρ=(f ρ).bind λds=>rO (B4 ds):=rfl
theorem jZ(z:Str):Im (.str z)=some z:=rfl
theorem dP(ρ:ak):Al ρ=.ok none:=rfl
theorem ir(f:FX)(ρ:ak):pT f ρ=(f ρ).bind λd=>rO (sA d):=rfl
theorem eN(f:FX)(l h:ak->R bX)(ρ:ak):pq f l h ρ=(f ρ).bind λa=>(l ρ).bind λlo=>(h ρ).bind λhi=>rO (me a lo hi):=rfl
theorem iM(ρ:ak):b9 ρ=.ok true:=rfl
theorem iK(k:Ks)(ρ:ak):bj k ρ=k.nx ρ:=nr rfl
theorem ip(A B:bG)(k:Ks)(ρ:ak):aA A B k ρ=A {k with nx:=B k} ρ:=nr rfl
theorem iH(f:FX)(k:Ks)(ρ:ak):cm f k ρ=kS (f ρ) k ρ .ok:=nr rfl
theorem fm(k:Ks)(ρ:ak):EK k ρ=.ok .non:=nr rfl
theorem ku(c:aY)(A B:bG)(k:Ks)(ρ:ak):i7 c A B k ρ=kS (c ρ) k ρ λb=>if b then A k ρ else B k ρ:=nr rfl
theorem iR(i:Nat)(f:FX)(k:Ks)(ρ:ak):bF i f k ρ=kS (f ρ) k ρ λd=>k.nx (setV i d ρ):=nr rfl
theorem fu(is:aT)(F:bG)(k:Ks)(ρ:ak):bI is F k ρ=F k (kill is ρ):=nr rfl
theorem iP(G:aN)(g:GF)(B:bG)(k:Ks)(ρ:ak):jS G g B k ρ=kS (G ρ) k ρ λds=>dg g B k ds ρ:=nr rfl
theorem vh(d:D)(x:Option S)(ρ:ak):setV 0 d (x::ρ)=some (.val d)::ρ:=rfl
theorem vH(i:Nat)(d:D)(x:Option S)(ρ:ak):setV (i+1) d (x::ρ)=x::setV i d ρ:=rfl
theorem j9(ρ:ak):kill [] ρ=ρ:=rfl
theorem iA(i:Nat)(is:aT)(ρ:ak):kill (i::is) ρ=kill is (ρ.set i none):=rfl
theorem sv(B:bG)(n:Nat)(a:D):bH B 1 n [a]=B K0 (env0 n [a]):=nr rfl
theorem lI(B:bG)(n:Nat)(a b:D):bH B 2 n [a,b]=B K0 (env0 n [a,b]):=nr rfl
theorem j7(B:bG)(n:Nat)(a b c:D):bH B 3 n [a,b,c]=B K0 (env0 n [a,b,c]):=nr rfl
theorem DZ(B:bG)(n:Nat)(a b c d:D):bH B 4 n [a,b,c,d]=B K0 (env0 n [a,b,c,d]):=nr rfl
theorem C3(B:bG)(n:Nat)(a b c d e:D):bH B 5 n [a,b,c,d,e]=B K0 (env0 n [a,b,c,d,e]):=nr rfl
theorem km(ρ:ak):inB [] ρ=[]:=rfl
theorem iO(ix:dA)(ρ:ak):inB (none::ix) ρ=none::inB ix ρ:=rfl
noncomputable def pick(ρ:ak)(i:Nat):Option S:=match ρ[i]? with
 |some (some (.val d))=>some (.val d)
 |_=>none
theorem iz(i:Nat)(ix:dA)(ρ:ak):inB (some i::ix) ρ=pick ρ i::inB ix ρ:=rfl
theorem uV(d:D)(ρ:ak):pick (some (.val d)::ρ) 0=some (.val d):=rfl
theorem uQ(x:Option S)(ρ:ak)(i:Nat):pick (x::ρ) (i+1)=pick ρ i:=rfl
theorem h7(i:Nat)(f:FX)(k:Ks)(ρ:ak):i5 i f k ρ=kS (f ρ) k ρ λd=>k.nx (ρ.set i (some (.own d))):=nr rfl
theorem iE(i:Nat)(F:bG)(k:Ks)(ρ:ak):jb i F k ρ=F k (frz i ρ):=nr rfl
theorem uO(d:D)(ρ:ak):frz 0 (some (.own d)::ρ)=some (.val d)::ρ:=rfl
theorem nD(d:D)(ρ:ak):frz 0 (some (.val d)::ρ)=some (.val d)::ρ:=rfl
theorem uT(i:Nat)(x:Option S)(ρ:ak):frz (i+1) (x::ρ)=x::frz i ρ:=by
 unfold frz;rw[KI];split<;>rename_i h
 ·rw[h];rfl
 ·rfl
theorem sN(i:Nat)(u:List D->List D->iU)(f:aN)(k:Ks)(ρ:ak){xs:List D}(h:ρ[i]?=some (some (.own (.lst xs)))):vx i u f k ρ=kS (f ρ) k ρ λds=>(rO (u xs ds)).bind λys=>k.nx (ρ.set i (some (.own (.lst ys)))):=by
 unfold vx;rw[h]
theorem rQ{xs:List D}{y:D}(h:xs.length<100000):ja xs [y]=some (xs++[y]):=by
 show(if small (xs.length+1)then some (xs++[y])else none)=_;rw[bY `o];rfl
theorem jV(i j:Int):eV (.int i) (.int j)=some (.int (i+j)):=nr rfl
theorem kD(i j:Int):TG.B6 (.int i) (.int j)=some (.int (i-j)):=nr rfl
theorem nY(i j:Int):HW (.int i) (.int j)=some (.bl (decide (i<j))):=nr rfl
theorem kf(i j:Int):ro (.int i) (.int j)=some (.bl (decide (i<j))):=nr rfl
theorem jU(x y:Str):ro (.str x) (.str y)=some (.bl (decide (x.cps.toList<y.cps.toList))):=nr rfl
theorem kI(c d:Bool):GP (.bl c) (.bl d)=some (.bl (c==d)):=nr rfl
theorem dL(c d:Bool):Aw (.bl c) (.bl d)=some (.bl (!(c==d))):=nr rfl
theorem nA(i j:Int):HN (.int i) (.int j)=some (.bl (decide (i<=j))):=nr rfl
theorem oh(i j:Int):DV (.int i) (.int j)=some (.bl (decide (j<i))):=nr rfl
theorem nX(i j:Int):Ia (.int i) (.int j)=some (.bl (decide (j<=i))):=nr rfl
theorem jY(i:Int):DY (.int i)=some (.int (-i)):=nr rfl
theorem xo{i j:Int}(h:0<j):cf (.int i) (.int j)=some (.int (i%j)):=by
 show(if decide (0<j)then some (D.int (i%j))else none)=_;rw[decide_eq_true h];rfl
theorem lC{i j:Int}(h:0<j)(h':j<10^200):dB (.int i) (.int j)=some (.int (i/j)):=by
 show(if decide (0<j/\j<10^200)then some (D.int (i/j))else none)=_;rw[decide_eq_true ⟨h,h'⟩];rfl
theorem oF{i j:Int}(h:-(2^64)<i)(h':i<2^64):kY (.int i) (.int j)=some (.int (i*j)):=by
 show(if decide ((-(2^64)<i/\i<2^64)\/(-(2^64)<j/\j<2^64))then some (D.int (i*j))else none)=_;rw[decide_eq_true (.inl ⟨h,h'⟩)];rfl
theorem tT{i j:Int}(h:-(2^64)<j)(h':j<2^64):kY (.int i) (.int j)=some (.int (i*j)):=by
 show(if decide ((-(2^64)<i/\i<2^64)\/(-(2^64)<j/\j<2^64))then some (D.int (i*j))else none)=_;rw[decide_eq_true (.inr ⟨h,h'⟩)];rfl
theorem yC(i:Int)(n:Nat)(h:n<=1000000)(h':i.natAbs<2^64):qo (.int i) (.int n)=some (.int (i^n)):=by
 show(if decide (0<=(n:Int)/\(n:Int)<=1000000/\i.natAbs<2^64)then some (D.int (i^(n:Int).toNat))else none)=_;rw[decide_eq_true ⟨by omega,by omega,h'⟩];rfl
theorem fg(i j:Int):pV (.int i) (.int j)=some (.bl (i==j)):=by unfold pV pyEq;rfl
theorem fD(i j:Str):pV (.str i) (.str j)=some (.bl (i==j)):=by unfold pV pyEq;rfl
theorem fh(i j:Bool):pV (.bl i) (.bl j)=some (.bl (i==j)):=by unfold pV pyEq;rfl
theorem eX(i j:Int):dY (.int i) (.int j)=some (.bl (!(i==j))):=by unfold dY pyEq;rfl
theorem fj(i j:Str):dY (.str i) (.str j)=some (.bl (!(i==j))):=by unfold dY pyEq;rfl
theorem eS(i j:Bool):dY (.bl i) (.bl j)=some (.bl (!(i==j))):=by unfold dY pyEq;rfl
theorem Di{α:Type}(xs:List α)(n:Nat):jH xs (n:Int)=xs[n]?:=by
 unfold jH zX;rw[if_pos `o];by_cases h:n<xs.length
 ·rw[if_pos `o];rfl
 ·rw[if_neg `o,KQ `o];rfl
theorem vy{α:Type}(a:α)(xs:List α):jH (a::xs) 0=some a:=Di (a::xs) 0
theorem vo{α:Type}(a:α)(xs:List α)(n:Nat):jH (a::xs) ((n+1:Nat):Int)=jH xs (n:Int):=by
 rw[Di,Di,KI]
theorem HB(xs:List D)(i:Int):aR (.lst xs) (.int i)=jH xs i:=nr rfl
theorem n0(a:D)(xs:List D):aR (.tup (a::xs)) (.int 0)=some a:=vy a xs
theorem ng(a b:D)(xs:List D):aR (.tup (a::b::xs)) (.int 1)=some b:=(vo a _ 0).trans (vy b xs)
theorem mY(a b c:D)(xs:List D):aR (.tup (a::b::c::xs)) (.int 2)=some c:=(vo a _ 1).trans ((vo b _ 0).trans (vy c xs))
theorem i3(a:D)(xs:List D):aR (.lst (a::xs)) (.int 0)=some a:=vy a xs
theorem ju(a b:D)(xs:List D):aR (.lst (a::b::xs)) (.int 1)=some b:=(vo a _ 0).trans (vy b xs)
theorem mI(a b c:D)(xs:List D):aR (.lst (a::b::c::xs)) (.int 2)=some c:=(vo a _ 1).trans ((vo b _ 0).trans (vy c xs))
theorem fH(xs:List D):sF [.lst xs]=some (.int xs.length):=nr rfl
theorem fw(xs:List D):sF [.tup xs]=some (.int xs.length):=nr rfl
theorem c7(xs:List D):cE [.lst xs]=some (.tup xs):=nr rfl
theorem c9(xs:List D):cE [.tup xs]=some (.tup xs):=nr rfl
theorem jP(b:Bool):Hk (.bl b)=some b:=nr rfl
theorem dR(i:Int):sA (.int i)=some (some i):=nr rfl
theorem df(b:Bool):truth (.bl b)=some b:=nr rfl
theorem cY(xs:List D):truth (.tup xs)=some (!xs.isEmpty):=nr rfl
theorem cW(xs:List D):truth (.lst xs)=some (!xs.isEmpty):=nr rfl
theorem jK(i j:Int):FK [.int i,.int j]=some (.int (if j>i then j else i)):=nr rfl
theorem kC(i j:Int):EA [.int i,.int j]=some (.int (if j<i then j else i)):=nr rfl
theorem cX(xs:List D):lL (.lst xs)=some xs:=nr rfl
theorem de(xs:List D):lL (.tup xs)=some xs:=nr rfl
theorem eR(k:R D):rA (.bl true) k=k:=nr rfl
theorem fG(k:R D):rA (.bl false) k=.ok (.bl false):=nr rfl
theorem iG(k:R D):EW (.bl true) k=.ok (.bl true):=nr rfl
theorem ig(k:R D):EW (.bl false) k=k:=nr rfl
theorem fq(a b:Bool):rA (.bl a) (.ok (.bl b))=.ok (.bl (a&&b)):=by cases a<;>rfl
theorem iq(a b:Bool):EW (.bl a) (.ok (.bl b))=.ok (.bl (a||b)):=by cases a<;>rfl
theorem kn(b:Bool):C8 (.bl b)=some (.bl (!b)):=nr rfl
theorem j6(xs:List D):Dm (.lst xs)=some (.lst xs.reverse):=nr rfl
theorem iC(n:Nat)(h:n<2^62):lw [.int n]=some (bA 0 n):=by
 show(if okR (n:Int)then some (bA 0 ((n:Int).toNat))else none)=_
 have:okR (n:Int)=true:=decide_eq_true ⟨by omega,by omega⟩
 rw[this];rfl
theorem eF{xs:List D}(h:xs.length<=100000):cS xs=some (.tup xs):=by unfold cS;rw[bY h];rfl
theorem gH{xs:List D}(h:xs.length<=100000):eU xs=some (.lst xs):=by unfold eU;rw[bY h];rfl
theorem xV(xs ys:List D)(h:xs.length+ys.length<=100000):eV (.lst xs) (.lst ys)=some (.lst (xs++ys)):=by
 show(if small (xs.length+ys.length)then some (D.lst (xs++ys))else none)=_;rw[bY h];rfl
theorem x8(xs ys:List D)(h:xs.length+ys.length<=100000):eV (.tup xs) (.tup ys)=some (.tup (xs++ys)):=by
 show(if small (xs.length+ys.length)then some (D.tup (xs++ys))else none)=_;rw[bY h];rfl
theorem iw(xs:List D)(lo hi:bX):me (.lst xs) lo hi=some (.lst (cutD xs lo hi)):=nr rfl
theorem iB(xs:List D)(lo hi:bX):me (.tup xs) lo hi=some (.tup (cutD xs lo hi)):=nr rfl
theorem ez{ix:dA}{G:aN}{g:GF}{C:aY}{Fe:FX}{ρ:ak}{ds r:List D}(h1:G ρ=.ok ds)(h2:ds.length<=100000)(h3:ri (inB ix ρ) g C Fe ds=.ok r):fW ix G g C Fe ρ=.ok (.lst r):=by
 unfold fW;rw[h1,cO,bY h2,h3];rfl
theorem fZ{α:Type}{ρ:ak}{g:GF}{C:aY}{Fe:FX}(mk:α->D)(p:α->Bool)(v:α->D):∀xs:List α,(∀a∈xs,∃ρ1,g (mk a) ρ=some ρ1/\C ρ1=.ok (p a)/\Fe ρ1=.ok (v a))->
  ri ρ g C Fe (xs.map mk)=.ok ((xs.filter p).map v)
 |[],_=>rfl
 |a::xs,h=>by
  obtain⟨ρ1,h1,h2,h3⟩:=h a IB;rw[Jg,mB,h1,cA,cO,h2,fM,cO,h3,fM,cO,fZ mk p v xs λb hb=>h b (IC _ hb)];cases e:p a with
  |true=>rw[if_pos rfl,JX e];rfl
  |false=>rw[if_neg II,JY (by simp[e])]
theorem pA{α:Type}{ρ:ak}{g:GF}{C:aY}{Fe:FX}(mk:α->D)(v:α->D)(xs:List α)(h:∀a∈xs,∃ρ1,g (mk a) ρ=some ρ1/\C ρ1=.ok true/\Fe ρ1=.ok (v a)):ri ρ g C Fe (xs.map mk)=.ok (xs.map v):=by
 rw[fZ mk (λ_=>true) v xs h,List.filter_eq_self.mpr λ_ _=>rfl]
theorem mm{ρ:ak}{g:GF}{C:aY}{Fe:FX}(P:D->Prop):∀ds:List D,(∀d∈ds,∃ρ1 v,g d ρ=some ρ1/\C ρ1=.ok true/\Fe ρ1=.ok v/\P v)->∃vs:List D,vs.length=ds.length/\(∀v∈vs,P v)/\ri ρ g C Fe ds=.ok vs
 |[],_=>⟨[],rfl,(λ_ h=>nomatch h),rfl⟩
 |d::ds,h=>by
  obtain⟨ρ1,w,h1,h2,h3,h4⟩:=h d IB;obtain⟨ws,e1,e2,e3⟩:=mm P ds λd' hd=>h d' (IC _ hd);refine⟨w::ws,by rw[Jl,Jl,e1],λw' hw=>?_,?_⟩
  ·rcases List.mem_cons.mp hw with z|z
   ·rw[z];exact h4
   ·exact e2 w' z
  ·rw[mB,h1,cA,cO,h2,fM,cO,h3,fM,cO,e3];rfl
theorem uy{g:GF}{B:bG}{k:Ks}(Iv:Nat->ak->Prop):∀(ds:List D)(i:Nat)(ρ:ak),(∀j d ρ (k':Ks),i<=j->ds[j-i]?=some d->Iv j ρ->∃ρ1 ρ2,g d ρ=some ρ1/\Iv (j+1) ρ2/\B k' ρ1=k'.nx ρ2)->Iv i ρ->∃ρ',Iv (i+ds.length) ρ'/\dg g B k ds ρ=k.nx ρ'
 |[],i,ρ,_,h=>⟨ρ,h,rfl⟩
 |d::ds,i,ρ,st,h=>by
  obtain⟨ρ1,ρ2,e1,h2,e2⟩:=st i d ρ ⟨dg g B k ds,k.nx,dg g B k ds,k.ex⟩ (IJ _) (by rw[Nat.sub_self];rfl) h;obtain⟨ρ',h3,e3⟩:=uy (g:=g) (B:=B) (k:=k) Iv ds (i+1) ρ2 (λj d' ρ k' hj hd=>st j d' ρ k' `o (by rw[show j-i=(j-(i+1))+1 by omega,KI];exact hd)) h2;refine⟨ρ',?_,?_⟩
  ·rw[Jl]
   have:i+(ds.length+1)=i+1+ds.length:=(by omega);rw[this];exact h3
  ·show((rO (g d ρ)).bind λρ1=>B ⟨dg g B k ds,k.nx,dg g B k ds,k.ex⟩ ρ1)=_;rw[e1,cA,cO,e2];exact e3
theorem k8{g:GF}{B:bG}{k:Ks}{ds:List D}{ρ:ak}{Q:R D->Prop}(Iv:Nat->ak->Prop)(st:∀i d ρ (k':Ks),ds[i]?=some d->Iv i ρ->∃ρ1 ρ2,g d ρ=some ρ1/\Iv (i+1) ρ2/\B k' ρ1=k'.nx ρ2)(h:Iv 0 ρ)(q:∀ρ',Iv ds.length ρ'->Q (k.nx ρ')):Q (dg g B k ds ρ):=by
 obtain⟨ρ',h1,e⟩:=uy (k:=k) Iv ds 0 ρ (λj d ρ k' _ hd=>st j d ρ k' hd) h;rw[e];rw[Kf]at h1;exact q ρ' h1
theorem jR{α:Type}{xs:List α}{i:Nat}{a:α}(h:xs[i]?=some a):i<xs.length:=by
 rcases Nat.lt_or_ge i xs.length with z|z
 ·exact z
 ·rw[KQ z]at h;cases h
theorem uE{α β:Type}(f:α->β)(xs:List α)(i:Int):jH (xs.map f) i=(jH xs i).map f:=by
 unfold jH;rw[IZ];cases zX xs.length i with
 |none=>rfl
 |some j=>simp
theorem qW{α:Type}{xs:List α}{k:Nat}(h:k<xs.length):jH xs (k:Int)=some xs[k]:=by
 unfold jH zX;rw[if_pos `o,if_pos `o];simp[h]
theorem uw{α:Type}{xs:List α}{i:Int}(h0:0<=i)(h:i<xs.length):jH xs i=some (xs[i.toNat]'`o):=by
 have e:i=((i.toNat:Nat):Int):=by omega
 conv=>lhs;rw[e]
 exact qW `o
noncomputable def BM:bG:=aA (i7 (fB (f2 ro (aa 1) (fL sF (af (aa 0) ao)))) (cm (f2 aR (aa 0) (aa 1))) bj) (cm (fC (.int 0)))
theorem sX(ns:List Int)(k:Nat):bH BM 2 2 [.lst (ns.map .int),.int k]=.ok (.int (ns.getD k 0)):=by
 show(if decide ((k:Int)<((ns.map D.int).length:Int))then kS (rO (jH (ns.map D.int) (k:Int))) _ _ .ok else .ok (.int 0))=_;rw[IZ];by_cases h:k<ns.length
 ·rw[if_pos (by simpa using h),uE,qW h,Option.map_some,Kv,Jz h];rfl
 ·rw[if_neg (by simpa using h),Kv,KQ `o];rfl
theorem zE(x y:Str):(x++y).length=x.length+y.length:=by
 show(x.cps++y.cps).size=_;rw[Array.size_append];rfl
theorem wo(x y:Str)(h:x.length<=1000)(h':y.length<=1000):eV (.str x) (.str y)=some (.str (x++y)):=by
 show(if small (x.length+y.length)then some (D.str (x++y))else none)=_;rw[bY `o];rfl
theorem tO(x:Str)(h:x.length<=1000)(i:Int)(h0:0<=i)(h1:i<x.length):∃y:Str,y.length=1/\aR (.str x) (.int i)=some (.str y):=by
 have hl:x.cps.toList.length=x.length:=by simp[Str.length]
 have hi:i<x.cps.toList.length:=by omega
 refine⟨⟨#[x.cps.toList[i.toNat]'`o]⟩,rfl,?_⟩;show(if small x.length then(jH x.cps.toList i).bind λc=>some (D.str ⟨#[c]⟩)else none)=_;rw[bY `o,if_pos rfl,uw h0 hi];rfl
theorem mj{lo:Int}{n:Nat}{d:D}(h:d∈bA lo n):∃k:Nat,k<n/\d=.int (lo+k):=by
 unfold bA at h;obtain⟨k,h1,h2⟩:=List.mem_map.mp h;exact⟨k,List.mem_range.mp h1,h2.symm⟩
theorem cG(lo:Int)(n:Nat):(bA lo n).length=n:=by unfold bA;rw[IZ,JK]
theorem Bk{α β:Type}(f:α->β)(xs:List α)(lo hi:bX):cutD (xs.map f) lo hi=(cutD xs lo hi).map f:=by
 unfold cutD;rw[IZ,<-List.map_drop,<-List.map_take]
theorem A0(ρ:ak):pR ρ=.ok (.dct [] []):=nr rfl
theorem cR(q:aE):cy (.tup (q.map aJ))=some q:=cj q
theorem pz{i:Nat}{fk fv:FX}{k:Ks}{ρ:ak}{al:bu}{q:aE}{v:D}(h:ρ[i]?=some (some (.own (az al))))(ek:fk ρ=.ok (.tup (q.map aJ)))(ev:fv ρ=.ok v)(hl:al.length<=100000):eh i fk fv k ρ=k.nx (ρ.set i (some (.own (az (cn al q v))))):=by
 have e:gR (encK al) (al.map (·.2)) (.tup (q.map aJ)) v=some (cn al q v):=by
  unfold gR;rw[cx];show(cy (.tup (q.map aJ))).bind _=_;rw[cR];show(if small al.length then _ else _)=_;rw[bY hl];rfl
 unfold eh;rw[h];show kS ((fv ρ).bind λv=>(fk ρ).bind λq=>rO (gR (encK al) (al.map (·.2)) q v)) k ρ _=_;rw[ev,cO,ek,cO,e];rfl
theorem Ej(n:Nat)(c:aY)(B:bG)(k:Ks)(ρ:ak):oE n c B k ρ=cP c B k n ρ:=nr rfl
theorem Du(c:aY)(B:bG)(k:Ks)(n:Nat)(ρ:ak):cP c B k (n+1) ρ=kS (c ρ) k ρ λb=>if b then B ⟨cP c B k n,k.nx,cP c B k n,k.ex⟩ ρ else k.nx ρ:=nr rfl
theorem yL(g:GF)(B:bG)(k:Ks)(d:D)(ds:List D)(ρ:ak):dg g B k (d::ds) ρ=(rO (g d ρ)).bind λρ1=>B ⟨dg g B k ds,k.nx,dg g B k ds,k.ex⟩ ρ1:=nr rfl
local macro_rules
 |`(tactic| simp! only[$xs,*])=>`(tactic| simp only[cO,oo,nV,ol,fM,cA,ge_0,uX,jJ,vN,ko,hV,jW,jO,vD,vk,u9,vB,vm,j0,kJ,m5,fN,ii,kH,iy,nF,jT,kx,iF,jN,fJ,kr,fA,eZ,dQ,dM,ki,g9,dP,ir,eN,iM,iK,ip,iH,fm,ku,iR,fu,iP,h7,iE,uO,nD,uT,vh,vH,j9,iA,km,iO,iz,uV,uQ,KR,KS,Jg,Jf,Jv,JE,K0,env0,List.replicate,KJ,IM,Kf,Nat.reduceAdd,Nat.reduceSub,Jl,Jm,jV,kD,nY,kf,jU,kI,dL,jZ,nA,oh,nX,jY,fg,fD,fh,eX,fj,eS,n0,ng,mY,i3,ju,mI,fH,fw,c7,c9,jP,dR,df,cY,cW,jK,kC,cX,de,eR,fG,iG,ig,fq,iq,kn,j6,iw,iB,gN,if_true,if_false,J3,J1,Jt,$xs,*])
theorem Ei(a:D):cS [a]=some (.tup [a]):=nr rfl
theorem Gi:cS []=some (.tup []):=nr rfl
theorem BJ(a:D):eU [a]=some (.lst [a]):=nr rfl
theorem HF(a b:D):eU [a,b]=some (.lst [a,b]):=nr rfl
inductive F2{α β:Type}(R:α->β->Prop):List α->List β->Prop where
 |nil:F2 R [] []
 |cons {a:α} {b:β} {as:List α} {bs:List β} (h:R a b) (t:F2 R as bs):F2 R (a::as) (b::bs)
end TG
namespace TD
open PySem PySem.Spec L2 TG TX
noncomputable def bi:bG:=aA (i7 (fB (f2 ro (aa 1) (fL sF (af (aa 0) ao)))) (cm (f2 aR (aa 0) (aa 1))) bj) (cm (fC (.int 0)))
end TD
namespace TD
open PySem PySem.Spec L2 TG
local macro_rules
 |`(tactic| simp! only[$xs,*])=>`(tactic| simp only[cO,oo,nV,ol,fM,cA,ge_0,uX,jJ,vN,ko,hV,jW,jO,vD,vk,u9,vB,vm,j0,kJ,m5,fN,ii,kH,iy,nF,jT,kx,iF,jN,fJ,kr,fA,eZ,dQ,dM,ki,g9,dP,ir,eN,iM,iK,ip,iH,fm,ku,iR,fu,iP,h7,iE,uO,nD,uT,vh,vH,j9,iA,km,iO,iz,uV,uQ,KR,KS,Jg,Jf,Jv,JE,K0,env0,List.replicate,KJ,IM,Kf,Nat.reduceAdd,Nat.reduceSub,Jl,Jm,jV,kD,nY,kf,jU,kI,dL,jZ,nA,oh,nX,jY,fg,fD,fh,eX,fj,eS,n0,ng,mY,i3,ju,mI,fH,fw,c7,c9,jP,dR,df,cY,cW,jK,kC,cX,de,eR,fG,iG,ig,fq,iq,kn,j6,iw,iB,gN,if_true,if_false,J3,J1,Jt,$xs,*])
local macro_rules
 |`(tactic| simp! only[$xs,*])=>`(tactic| simp only[cO,oo,nV,ol,fM,cA,ge_0,uX,jJ,vN,ko,hV,jW,jO,vD,vk,u9,vB,vm,j0,kJ,m5,fN,ii,kH,iy,nF,jT,kx,iF,jN,fJ,kr,fA,eZ,dQ,dM,ki,g9,dP,ir,eN,iM,iK,ip,iH,fm,ku,iR,fu,iP,h7,iE,uO,nD,uT,vh,vH,j9,iA,km,iO,iz,uV,uQ,KR,KS,Jg,Jf,Jv,JE,K0,env0,List.replicate,KJ,IM,Kf,Nat.reduceAdd,Nat.reduceSub,Jl,Jm,jV,kD,nY,kf,jU,kI,dL,jZ,nA,oh,nX,jY,fg,fD,fh,eX,fj,eS,n0,ng,mY,i3,ju,mI,fH,fw,c7,c9,jP,dR,df,cY,cW,jK,kC,cX,de,eR,fG,iG,ig,fq,iq,kn,j6,iw,iB,gN,if_true,if_false,J3,J1,Jt,$xs,*])
end TD
namespace T4
open PySem PySem.Spec L2 TG TD
local macro_rules
 |`(tactic| simp! only[$xs,*])=>`(tactic| simp only[cO,oo,nV,ol,fM,cA,ge_0,uX,jJ,vN,ko,hV,jW,jO,vD,vk,u9,vB,vm,j0,kJ,m5,fN,ii,kH,iy,nF,jT,kx,iF,jN,fJ,kr,fA,eZ,dQ,dM,ki,g9,dP,ir,eN,iM,iK,ip,iH,fm,ku,iR,fu,iP,h7,iE,uO,nD,uT,vh,vH,j9,iA,km,iO,iz,uV,uQ,KR,KS,Jg,Jf,Jv,JE,K0,env0,List.replicate,KJ,IM,Kf,Nat.reduceAdd,Nat.reduceSub,Jl,Jm,jV,kD,nY,kf,jU,kI,dL,jZ,nA,oh,nX,jY,fg,fD,fh,eX,fj,eS,n0,ng,mY,i3,ju,mI,fH,fw,c7,c9,jP,dR,df,cY,cW,jK,kC,cX,de,eR,fG,iG,ig,fq,iq,kn,j6,iw,iB,gN,if_true,if_false,J3,J1,Jt,$xs,*])
local macro_rules
 |`(tactic| simp! only[$xs,*])=>`(tactic| simp only[cO,oo,nV,ol,fM,cA,ge_0,uX,jJ,vN,ko,hV,jW,jO,vD,vk,u9,vB,vm,j0,kJ,m5,fN,ii,kH,iy,nF,jT,kx,iF,jN,fJ,kr,fA,eZ,dQ,dM,ki,g9,dP,ir,eN,iM,iK,ip,iH,fm,ku,iR,fu,iP,h7,iE,uO,nD,uT,vh,vH,j9,iA,km,iO,iz,uV,uQ,KR,KS,Jg,Jf,Jv,JE,K0,env0,List.replicate,KJ,IM,Kf,Nat.reduceAdd,Nat.reduceSub,Jl,Jm,jV,kD,nY,kf,jU,kI,dL,jZ,nA,oh,nX,jY,fg,fD,fh,eX,fj,eS,n0,ng,mY,i3,ju,mI,fH,fw,c7,c9,jP,dR,df,cY,cW,jK,kC,cX,de,eR,fG,iG,ig,fq,iq,kn,j6,iw,iB,gN,if_true,if_false,J3,J1,Jt,$xs,*])
theorem wN:∀{p q:aE},p.map aJ=q.map aJ->p=q:=λ{p q} h=>by
 have:=congrArg keysOf h
 rw[cj,cj]at this;exact Option.some.inj this
section
open Classical
variable(m:Nat)
noncomputable def Ic(acc:List (List D))(r:List D):List (List D):=if r.take m∈acc then acc else acc++[r.take m]
noncomputable def fs(t:List (List D)):List (List D):=t.foldl (Ic m) []
noncomputable def gp(t:List (List D))(f:List D):List (List D):=(t.filter λr=>decide (r.take m=f)).map (List.drop m)
noncomputable def flat(t:List (List D)):List (List D):=(fs m t).flatMap λf=>(gp m t f).map (f++·)
end
open Classical in
theorem nB(al:bu)(q:aE)(v:D):(cn al q v).map (·.1)=if q∈al.map (·.1)then al.map (·.1)else al.map (·.1)++[q]:=by
 have e:(al.any λp=>decide (p.1=q))=true↔q∈al.map (·.1):=by
  rw[List.any_eq_true,List.mem_map];simp only[decide_eq_true_eq]
 unfold cn;by_cases h:q∈al.map (·.1)
 ·rw[if_pos (e.mpr h),if_pos h,Kw];refine JF λp _=>?_;show(if p.1=q then(p.1,v)else p).1=p.1;split<;>rfl
 ·rw[if_neg λz=>h (e.mp z),if_neg h,JG];rfl
theorem wV{al:bu}{q:aE}{v:D}{p:List Key×D}(h:p∈cn al q v):p∈al\/p=(q,v):=by
 unfold cn at h;split at h
 ·obtain⟨a,ha,e⟩:=List.mem_map.mp h;by_cases z:a.1=q
  ·rw[if_pos z]at e;exact .inr (by rw[<-e,z])
  ·rw[if_neg z]at e;exact .inl (by rw[<-e];exact ha)
 ·rcases List.mem_append.mp h with z|z
  ·exact .inl z
  ·exact .inr (List.mem_singleton.mp z)
theorem um{al:bu}(q:aE)(v:D)(h:(al.map (·.1)).Nodup):((cn al q v).map (·.1)).Nodup:=by
 rw[nB];split
 ·exact h
 ·rename_i z;exact List.nodup_append.mpr ⟨h,by simp,λa ha b hb e=>by
   rw[List.mem_singleton.mp hb]at e;rw[e]at ha;exact z ha⟩
theorem qJ(al:bu)(q:aE)(v:D):(cn al q v).length<=al.length+1:=by
 have:=congrArg List.length (nB al q v)
 rw[IZ]at this;rw[this];split<;>simp
theorem oQ(al:bu):oN (encK al) (al.map (·.2))=some al:=by
 cases al with
 |nil=>rfl
 |cons p al=>exact cx (p::al)
theorem yJ(al:bu):gf [az al]=some (.lst (encK al)):=by
 show(oN (encK al) (al.map (·.2))).bind _=_;rw[oQ];rfl
theorem yw(al:bu)(q:aE):dh (az al) (.tup (q.map aJ))=eB al q:=by
 show(oN (encK al) (al.map (·.2))).bind _=_;rw[oQ];show(cy (.tup (q.map aJ))).bind _=_;rw[cR];rfl
end T4
namespace Tk13
open PySem PySem.Spec L2 TG TX TD
noncomputable def top(i:Nat):Md:=PySem.Challenge.pw_twoglass_k13_changes_joined.main.body.getD i (.Pass ⟨0,0,0,0⟩)
noncomputable abbrev fE:Md:=inClass (top 2) 0
theorem jD:dq ["self","key"] ["self","key"] (aC fE):=⟨rfl,rfl,rfl,by decide +kernel,rfl,by decide +kernel,by decide +kernel⟩
noncomputable def bV:bG:=aA (i5 2 pR) (aA (jS (bq (aa 0)) (gT 3 (kc [3,4,5])) (aA (eh 2 (aa 3) (bJ (af (aa 4) (af (aa 5) ao)))) (bI [3,4,5] bj))) (aA (i5 6 (dD ao)) (bI [0,3,4,5] (aA (jS (bq (aa 1)) (gT 3 (kc [3,4,5])) (aA (i7 (i9 [2] (pp (fB (f2 lY (aa 3) (aa 2))) (fB (f2 dY (f2 aR (f2 dh (aa 2) (aa 3)) (fC (.int 1))) (aa 4))))) (vx 6 ja (af (aa 3) ao)) bj) (aA (eh 2 (aa 3) (eW [2] (bJ (af (f2 aR (cU (aa 2) (aa 3) (bJ (af (aa 4) (af (aa 5) ao)))) (fC (.int 0))) (af (aa 5) ao))))) (bI [3,4,5] bj)))) (jb 6 (aA (i7 (fB (f2 dY (aa 6) (dD ao))) (cm (dD (af (f2 aR (aa 6) (fC (.int 0))) ao))) bj) (aA (i5 7 (dD ao)) (jb 2 (bI [0,1,3,4,5,6] (aA (jS (bq (fL dF (af (fL gf (af (aa 2) ao)) ao))) (gN 3) (aA (i7 (fB (f2 dY (f2 aR (f2 dh (aa 2) (aa 3)) (fC (.int 0))) (f2 aR (f2 dh (aa 2) (aa 3)) (fC (.int 1))))) (vx 7 ja (af (bJ (af (aa 3) (af (f2 aR (f2 dh (aa 2) (aa 3)) (fC (.int 0))) (af (f2 aR (f2 dh (aa 2) (aa 3)) (fC (.int 1))) ao)))) ao)) bj) (bI [3] bj))) (jb 7 (cm (fL cE (af (aa 7) ao))))))))))))))
noncomputable def aZ:bG:=aA (i5 2 (dD ao)) (aA (jS (bq (fL dF (af (f2 eV (fL gf (af (aa 0) ao)) (fW [none,some 0] (jl (aa 1)) (gN 0) (fB (f2 iI (aa 0) (aa 1))) (aa 0))) ao))) (gN 3) (aA (i7 (fB (f2 dY (cJ (aa 0) (aa 3)) (cJ (aa 1) (aa 3)))) (vx 2 ja (af (bJ (af (aa 3) (af (cJ (aa 0) (aa 3)) (af (cJ (aa 1) (aa 3)) ao)))) ao)) bj) (bI [3] bj))) (jb 2 (cm (fL cE (af (aa 2) ao)))))
noncomputable def gz:bG:=cm (fL cE (af (fW [none] (bq (aa 0)) (gN 0) (fB (f2 dY (f2 aR (aa 0) (fC (.int 1))) (f2 aR (aa 0) (fC (.int 2))))) (aa 0)) ao))
noncomputable def gB:bG:=aA (i5 2 (fL gY (af (fW [none] (bq (aa 0)) (gN 0) b9 (bJ (af (f2 aR (aa 0) (fC (.int 0))) (af (aa 0) ao)))) ao))) (bI [0] (aA (jS (bq (aa 1)) (gT 3 (kc [3,4,5])) (aA (bF 6 (eW [2] (cU (aa 2) (aa 3) (bJ (af (aa 3) (af (aa 4) (af (aa 4) ao))))))) (aA (i7 (fB (f2 dY (f2 aR (aa 6) (fC (.int 2))) (aa 4))) (g8 "Stale" ["key"] (af (aa 3) ao)) bj) (aA (eh 2 (aa 3) (bJ (af (aa 3) (af (f2 aR (aa 6) (fC (.int 1))) (af (aa 5) ao))))) (bI [4,5,6] bj))))) (jb 2 (cm (fR (bH gz 1 1) (af (fW [none,some 2] (bq (fL eK (af (aa 2) ao))) (gN 0) b9 (f2 dh (aa 1) (aa 0))) ao))))))
noncomputable def bM:bG:=aA (bF 2 (bJ ao)) (aA (xW ["Stale"] 3 (bF 2 (fR (bH gB 2 7) (af (aa 0) (af (aa 1) ao)))) (bF 2 (dD (af (f1 (qY "key" ["Stale"]) (aa 3)) ao)))) (cm (aa 2)))
noncomputable def dW:bG:=cm (fL cE (af (fW [none,none,none] (bq (aa 0)) (gT 3 (kc [0,1,2])) b9 (bJ (af (aa 0) (af (aa 2) (af (aa 1) ao))))) ao))
noncomputable def bS:bG:=aA (bF 2 (fC (.str "abcdefghijklmnopqrstuvwxyz"))) (aA (bF 3 (f2 aR (aa 2) (f2 cf (aa 1) (fC (.int 26))))) (aA (bF 4 (f2 aR (aa 2) (f2 cf (f2 eV (f2 eV (aa 1) (fC (.int 1))) (f2 cf (f2 dB (aa 1) (fC (.int 26))) (fC (.int 25)))) (fC (.int 26))))) (aA (bF 5 (fC (.str ""))) (aA (bF 0 (f2 eV (aa 0) (fC (.int 1)))) (bI [1,2] (aA (oE 200 (fB (f2 DV (aa 0) (fC (.int 1)))) (aA (bF 5 (f2 eV (f2 aR (dD (af (aa 3) (af (aa 4) ao))) (f2 cf (aa 0) (fC (.int 2)))) (aa 5))) (bF 0 (f2 dB (aa 0) (fC (.int 2)))))) (cm (aa 5))))))))
noncomputable def aL:bG:=aA (i7 (fB (f2 pV (aa 0) (fC (.int 0)))) (cm (f2 eV (f2 kY (f2 B6 (f2 kY (aa 1) (fC (.int 7919))) (f2 kY (fC (.int 5)) (fC (.int 7919)))) (f2 aR (dD (af (fC (.int 1)) (af (y0 (fC (.int 1))) (af (f2 qo (fC (.int 10)) (fC (.int 54))) (af (y0 (f2 qo (fC (.int 10)) (fC (.int 54)))) ao))))) (f2 cf (aa 2) (fC (.int 4))))) (f2 cf (f2 dB (aa 2) (fC (.int 4))) (f2 qo (fC (.int 10)) (fC (.int 50)))))) bj) (aA (i7 (fB (f2 pV (aa 0) (fC (.int 1)))) (cm (fR (bH bS 2 6) (af (aa 1) (af (aa 2) ao)))) bj) (cm (fL cE (af (fW [none,some 2] (cB (af (f2 cf (aa 1) (fC (.int 4))) ao)) (gN 0) b9 (bJ (af (aa 0) (af (fR (bH bS 2 6) (af (aa 0) (af (aa 1) ao))) ao)))) ao))))
noncomputable def bW:bG:=aA (bF 3 (dD (af (aa 0) ao))) (aA (i7 (fB (f2 DV (aa 1) (fC (.int 1)))) (bF 3 (dD (af (f2 cf (aa 0) (fC (.int 3))) (af (f2 dB (aa 0) (fC (.int 3))) ao)))) bj) (aA (i7 (fB (f2 DV (aa 1) (fC (.int 2)))) (bF 3 (dD (af (f2 cf (aa 0) (fC (.int 2))) (af (f2 cf (f2 dB (aa 0) (fC (.int 2))) (fC (.int 3))) (af (f2 dB (aa 0) (fC (.int 6))) ao))))) bj) (cm (fL cE (af (fW [none,some 2,some 3] (cB (af (aa 1) ao)) (gN 0) b9 (fR (bH aL 3 3) (af (f2 cf (f2 dB (aa 1) (f2 eV (aa 0) (fC (.int 2)))) (fC (.int 2))) (af (f2 aR (aa 2) (aa 0)) (af (aa 1) ao))))) ao)))))
noncomputable def cD:bG:=cm (f2 eV (fR (bH bW 3 4) (af (aa 0) (af (aa 2) (af (aa 4) ao)))) (fL cE (af (fW [none,some 4,some 1] (cB (af (aa 3) ao)) (gN 0) b9 (fR (bH aL 3 3) (af (f2 cf (f2 eV (f2 dB (aa 1) (fC (.int 7))) (aa 0)) (fC (.int 3))) (af (aa 2) (af (aa 1) ao))))) ao)))
noncomputable def bP:bG:=aA (gZ 4 (cB (af (aa 3) ao))) (aA (bF 5 (f2 dB (fR (bH bi 2 2) (af (aa 0) (af (fC (.int 0)) ao))) (fC (.int 16)))) (aA (jS (bq (pq (aa 0) (pT (fC (.int 1))) (pT (fC (.int 241))))) (gN 6) (aA (bF 7 (f2 cf (f2 dB (aa 6) (aa 3)) (fC (.int 20)))) (aA (bF 8 (fR (bH bW 3 4) (af (aa 7) (af (aa 1) (af (aa 5) ao))))) (aA (i7 (fB (f2 pV (f2 cf (f2 dB (aa 6) (f2 kY (fC (.int 20)) (aa 3))) (fC (.int 4))) (fC (.int 0)))) (gh 4 gP (f2 cf (aa 6) (aa 3)) (aa 8) (fC .non)) (gh 4 gG (f2 cf (aa 6) (aa 3)) (aa 8) (fR (bH cD 5 5) (af (aa 7) (af (f2 cf (f2 dB (aa 6) (f2 kY (fC (.int 80)) (aa 3))) (fC (.int 5))) (af (aa 1) (af (aa 2) (af (aa 5) ao)))))))) (bI [6,7,8] bj))))) (j8 4 (cm (aa 4)))))
noncomputable def kO:bG:=aA (bF 1 (f2 eV (fC (.int 1)) (f2 cf (fR (bH bi 2 2) (af (aa 0) (af (fC (.int 0)) ao))) (fC (.int 3))))) (aA (bF 2 (f2 cf (f2 dB (fR (bH bi 2 2) (af (aa 0) (af (fC (.int 0)) ao))) (fC (.int 3))) (fC (.int 4)))) (aA (zy (fR (bH bP 4 9) (af (aa 0) (af (aa 1) (af (aa 2) (af (fC (.int 4)) ao))))) (Gk 4 (kc [3,4,5,6]))) (aA (bF 7 (fR (bH aZ 2 4) (af (aa 3) (af (aa 4) ao)))) (bI [0,1,2] (aA (jS (bq (dD (af (fR (bH aZ 2 4) (af (aa 4) (af (aa 6) ao))) (af (fR (bH aZ 2 4) (af (aa 5) (af (aa 6) ao))) (af (fR (bH aZ 2 4) (af (aa 4) (af (aa 3) ao))) (af (bJ ao) ao)))))) (gN 8) (aA (bF 9 (fR (bH bV 2 8) (af (aa 7) (af (aa 8) ao)))) (aA (bF 10 (fR (bH bM 2 4) (af (aa 7) (af (aa 8) ao)))) (aA (i7 (zm (fB (f2 dY (kG "list" (aa 10)) (kG "list" (aa 9)))) (fB (f2 dY (aa 10) (aa 9)))) (cm (fC (.bl false))) bj) (aA (bF 11 (fR (bH dW 1 1) (af (aa 8) ao))) (aA (bF 12 (fW [none,none,none] (bq (aa 8)) (gT 3 (kc [0,1,2])) b9 (bJ (af (aa 0) (af (aa 2) (af (aa 1) ao)))))) (aA (i7 (zm (vC (ka (kG "tuple" (aa 11)))) (fB (f2 dY (fL iZ (af (aa 11) ao)) (aa 12)))) (cm (fC (.bl false))) bj) (bI [8,9,10,11,12] bj)))))))) (cm (f2 pV (fR (bH bM 2 4) (af (aa 7) (af (fR (bH aZ 2 4) (af (aa 4) (af (aa 6) ao))) ao))) (fR (bH bV 2 8) (af (aa 7) (af (fR (bH aZ 2 4) (af (aa 4) (af (aa 6) ao))) ao))))))))))
set_option hygiene false
local macro_rules|`(tactic|ktr_call $p $e)=>`(tactic|((with_reducible show $p);refine $e))
local macro_rules|`(tactic|walk_at "A")=>`(tactic|first|ktr_call (lD _ _ (aA _ _)) (vf ?_ ?_)|ktr_call (lD _ _ (bI _ _)) (uY _ ?_)|ktr_call (lD _ _ (jb _ _)) (yj _ ?_)|ktr_call (lD _ _ (j8 _ _)) (rV _ ?_)|ktr_call (lD _ _ bj) xu|refine yD ?_)
local macro_rules|`(tactic|walk_at "B")=>`(tactic|first|ktr_call (XS _ _ (bF _ (fW _ _ _ _ _))) (Il (by first|assumption|exact mi rfl) rfl (by first|exact hZ rfl|exact f7 rfl) ?_ ?_)|ktr_call (XS _ _ (bF _ _)) (xs _ (by first|assumption|exact mi rfl) ?_)|ktr_call (XS _ _ (cm _)) (z4 ?_)|ktr_call (XS _ _ (i7 _ _ _)) (Ec ?_ ?_ ?_)|ktr_call (XS _ _ bj) x9|ktr_call (XS _ _ bj) Ab|ktr_call (XS _ _ (jS _ _ _)) (AZ hp rfl ?_ ?_ ?_)|ktr_call (XS _ _ (i5 _ (fW _ _ _ _ _))) (Ih (by first|assumption|exact mi rfl) rfl (by first|exact hZ rfl|exact f7 rfl) ?_ ?_)|ktr_call (XS _ _ (i5 _ _)) (zI (by first|assumption|exact mi rfl) rfl (by first|exact Or.inl rfl|exact Or.inr rfl) ?_)|ktr_call (XS _ _ (vx _ ja _)) (C1 PySem.F.slot_list_append PySem.F.type_list_append ny vO (xv _) ?_)|ktr_call (XS _ _ (eh _ _ _)) (yG hr.units (xv _) ?_ ?_)|ktr_call (XS _ _ (gh _ gG _ _ _)) (uL hr.units (xv _) ?_ ?_ ?_ (fun _ _=>rfl))|ktr_call (XS _ _ (gh _ gP _ _ _)) (vU hr.units (xv _) ?_ ?_ ?_ (fun _ _=>rfl))|ktr_call (XS _ _ (zy _ _)) (zB ?_ ?_)|ktr_call (XS _ _ (oE _ _ _)) (uU _ hp ?_ ?_)|ktr_call (XS _ _ (gZ _ _)) (HY (by first|assumption|exact mi rfl) rfl ?_ (fun _ _ _ _ _ _=>?_))|ktr_call (XS _ _ (g8 _ _ _)) (rj rfl rfl (by walk_at "a") hr ‹0› rfl ?_)|ktr_call (XS _ _ (xW _ _ _ _)) (Ag rfl rfl rfl (fun _=>rfl) (by walk_at "a") rfl (by first|assumption|exact mi rfl) rfl rfl (fun E' pn hp=>?_) (fun A' pn hA hU=>?_)))
local macro_rules|`(tactic|walk_at "C")=>`(tactic|first|ktr_call (XT _ _ (fB (f2 dY _ _))) (iD (xH hr.units) bK ?_ ?_ (gJ _))|ktr_call (XT _ _ (fB (f2 pV _ _))) (iD (wn hr.units) bK ?_ ?_ (gJ _))|ktr_call (XT _ _ (fB (f2 DV _ _))) (iD BG m7 ?_ ?_ (gJ _))|ktr_call (XT _ _ (zm _ _)) (HJ ?_)|ktr_call (XT _ _ (fB (f2 lY _ _))) (iD (xr hr.units) bK ?_ ?_ rfl)|ktr_call (XT _ _ (fB (f2 iI _ _))) (iD (ni hr.units) bK ?_ ?_ rfl)|ktr_call (XT _ _ (vC _)) (zH ?_)|ktr_call (XT _ _ (pp _ _)) (HJ ?_)|ktr_call (XT _ _ (ka _)) (uH ?_)|ktr_call (XT _ _ (i9 _ _)) (xG _ ?_)|ktr_call (XT _ _ (fB (f2 ro _ _))) (iD (wz hr.units) bK ?_ ?_ (gJ _)))
local macro_rules|`(tactic|walk_at "D")=>`(tactic|first|ktr_call (XW _ _ (pp _ _)) (z8 ?_ ?_)|ktr_call (XW _ _ (zm _ _)) (Ed ?_ ?_)|refine xt ?_|refine Ay ?_)
local macro_rules|`(tactic|walk_at "F")=>`(tactic|first|ktr_call (XI _ _ _ (bq _)) (Ap ?_)|ktr_call (XI _ _ _ (cB _)) (si rfl (by walk_at "a") ?_)|ktr_call (XI _ _ _ (jl _)) (xN ?_))
local macro_rules|`(tactic|walk_at "G")=>`(tactic|first|ktr_call (XG _ _ (gN _)) (yv (by first|assumption|exact mi rfl) rfl (by first|exact Or.inl rfl|exact Or.inr rfl))|ktr_call (XG _ _ (gT _ _)) (zu rfl ?_)|ktr_call (XG _ _ (Gk _ _)) (yq rfl ?_))
local macro_rules|`(tactic|walk_at "L")=>`(tactic|first|ktr_call (XN _ _ (dD _)) (As ?_)|ktr_call (XN _ _ (fL iZ _)) (yS rfl (by walk_at "a") LQ ?_)|ktr_call (XN _ _ pR) vR|ktr_call (XN _ _ (fW _ _ _ _ _)) (HR rfl (by first|exact hZ rfl|exact f7 rfl) ?_ ?_)|ktr_call (XN _ _ (fL gY _)) (xX rfl hr.units rfl (by walk_at "a") LR ?_))
local macro_rules|`(tactic|walk_at "M")=>`(tactic|first|ktr_call (XE _ _ (aa _)) (xw _)|ktr_call (XE _ _ (fC .non)) AI|ktr_call (XE _ _ (fC (.int _))) Bj|ktr_call (XE _ _ (fR _ _)) (rK (by walk_at "a") (by first|exact Dq|walk_at "a") hr ‹0› ?_)|ktr_call (XE _ _ (f2 cf _ _)) (ik DL DJ ?_ ?_)|ktr_call (XE _ _ (f2 aR _ _)) (xi ?_ ?_)|ktr_call (XE _ _ (bJ _)) (AV ?_)|ktr_call (XE _ _ (f2 dB _ _)) (ik xq Dv ?_ ?_)|ktr_call (XE _ _ (dD _)) (Bp ?_)|ktr_call (XE _ _ (f2 eV _ _)) (ik Ai bK ?_ ?_)|ktr_call (XE _ _ (f2 dY _ _)) (iN (xH hr.units) bK ?_ ?_ (gJ _))|ktr_call (XE _ _ (fW _ _ _ _ _)) (xl rfl (by first|exact hZ rfl|exact f7 rfl) ?_ ?_)|ktr_call (XE _ _ (fL cE _)) (fU qe rfl (by walk_at "a") LU ?_)|ktr_call (XE _ _ (f2 dh _ _)) (A6 hr.units ?_ ?_ (fun _ _=>rfl))|ktr_call (XE _ _ (f2 kY _ _)) (ik Ds Cd ?_ ?_)|ktr_call (XE _ _ (f2 pV _ _)) (iN (wn hr.units) bK ?_ ?_ (gJ _))|ktr_call (XE _ _ (cJ _ _)) (vb hr.units ?_ ?_)|ktr_call (XE _ _ (f2 qo _ _)) (ik Dn D9 ?_ ?_)|ktr_call (XE _ _ (f2 DV _ _)) (iN BG m7 ?_ ?_ (gJ _))|ktr_call (XE _ _ (kG "tuple" _)) (uD rH rfl (by walk_at "a") rfl (by walk_at "a") LU ?_)|ktr_call (XE _ _ (kG "list" _)) (uD vJ rfl (by walk_at "a") rfl (by walk_at "a") LQ ?_)|ktr_call (XE _ _ (fC (.str _))) Bi|ktr_call (XE _ _ (fC (.bl _))) Dw|ktr_call (XE _ _ (y0 _)) (AK ?_)|ktr_call (XE _ _ (fL dF _)) (jL pJ rfl (by walk_at "a") js ?_)|ktr_call (XE _ _ (fL gf _)) (fU (sf rfl) rfl (by walk_at "a") LQ ?_)|ktr_call (XE _ _ (cU _ _ _)) (vE hr.units ?_ ?_ ?_)|ktr_call (XE _ _ (eW _ _)) (xY _ ?_)|ktr_call (XE _ _ (f2 B6 _ _)) (ik C6 Do ?_ ?_)|ktr_call (XE _ _ (f2 lY _ _)) (iN (xr hr.units) bK ?_ ?_ rfl)|ktr_call (XE _ _ (f2 iI _ _)) (iN (ni hr.units) bK ?_ ?_ rfl)|ktr_call (XE _ _ (pq _ _ _)) (u5 ?_ ?_ ?_)|ktr_call (XE _ _ (f1 (qY _ _) _)) (zi (by walk_at "a") ?_)|ktr_call (XE _ _ (fL iZ _)) (fU sd rfl (by walk_at "a") LQ ?_)|ktr_call (XE _ _ (fL gY _)) (fU (sy rfl hr.units) rfl (by walk_at "a") LR ?_)|ktr_call (XE _ _ (fL eK _)) (jL (pC rfl) rfl (by walk_at "a") js ?_)|ktr_call (XE _ _ (f2 ro _ _)) (iN (wz hr.units) bK ?_ ?_ (gJ _))|ktr_call (XE _ _ (fL sF _)) (jL uN rfl (by walk_at "a") PySem.boot_len ?_))
local macro_rules|`(tactic|walk_at "d")=>`(tactic|((first|((with_reducible show XE _ _ _);walk_at "M")|((with_reducible show XA _ _ _);first|ktr_call (XA _ _ (af _ _)) (wQ ?_ ?_)|ktr_call (XA _ _ ao) zx)|((with_reducible show XS _ _ _);walk_at "B")|((with_reducible show lD _ _ _);walk_at "A")|((with_reducible show XT _ _ _);walk_at "C")|((with_reducible show XW _ _ _);walk_at "D")|((with_reducible show XI _ _ _ _);walk_at "F")|((with_reducible show XG _ _ _);walk_at "G")|((with_reducible show BK _ _ _);first|ktr_call (BK _ _ (kc (_ :: _))) (vT ?_ ?_)|ktr_call (BK _ _ (kc [])) yO)|ktr_call (XO _ _ (pT _)) (w6 ?_)|((with_reducible show FL _ _ _);first|ktr_call (FL _ _ b9) yX|refine wg ?_)|((with_reducible show mV _ _ _ _ _ _ _ _ _);first|refine ⟨fun _ _ _ _ _ _=>⟨?_, ?_, ?_⟩⟩)|((with_reducible show XN _ _ _);walk_at "L"))<;>walk_at "d"))
local macro_rules | `(tactic| walk_at "a") => `(tactic| first | assumption | exact q.2 | exact q.1.2 | exact q.1.1.2 | exact q.1.1.1.2 | exact q.1.1.1.1.2 | exact q.1.1.1.1.1.2 | exact q.1.1.1.1.1.1.2 | exact q.1.1.1.1.1.1.1.2 | (replace q := q.1.1.1.1.1.1.1.1; walk_at "a") | exact q.1 | exact q.1.1 | exact q.1.1.1 | exact q.1.1.1.1 | exact q.1.1.1.1.1 | exact q.1.1.1.1.1.1 | exact q.1.1.1.1.1.1.1)
local macro_rules | `(tactic| walk_at "b") => `(tactic| (intro us hl _ _ _ _ _ _; first | (obtain ⟨a, rfl⟩ := Et hl; rfl) | (obtain ⟨a, b, rfl⟩ := CG hl; rfl) | (obtain ⟨a, b, c, rfl⟩ := Fb hl; rfl) | (obtain ⟨a, b, c, d, rfl⟩ := EF hl; rfl) | (obtain ⟨a, b, c, d, e, rfl⟩ := G8 hl; rfl)))
local macro_rules | `(tactic| walk_at "m") => `(tactic| ((· walk_at "a"); (· walk_at "b"); (· exact ⟨rfl, rfl, rfl, by decide +kernel, rfl, by decide +kernel, by decide +kernel⟩); first | refine fun nd f => ⟨fun cdv A outer s H E hr hp => ?_⟩ | intro nd f A outer s H E hr hp))
local macro_rules | `(tactic| ktn_call $m $b:ident) => `(tactic| (apply Ig $m; walk_at "m"; unfold $b; walk_at "d"))
section
variable{u:U}
noncomputable def Q0(u:U):Prop:=((((GD u (Zs u ["sorted","list","tuple","dict","range","len","isinstance"]) [("_law_due",top 16),("_law_some",top 15),("unlike",top 4),("joined",top 5),("_law_told",top 17),("undone",top 6),("_law_word",top 9),("_law_value",top 10),("_law_key",top 11),("_law_row",top 12),("_law_cell_at",top 8),("_law_tables",top 13)])/\k7 u.P u.w u.K u.mg u.base 1 "Stale" ["self","key"] ["key"])/\vV u.K "key" ["Stale"])/\qU u.K u.mg "Stale" ["Stale"])
noncomputable def Q1(u:U):Prop:=Q0 u/\Ca u 1 "_law_due" ["_law_first","_law_second"] (bH bV 2 8)
theorem e1(q:Q0 u):Q1 u:=⟨q,(by ktn_call ["_law_ends","_law_key_here","_law_old","_law_new","_law_stale","_law_due_here"] bV)⟩
noncomputable def Q2(u:U):Prop:=Q1 u/\Ca u 1 "_law_some" ["_law_old","_law_new"] (bH aZ 2 4)
theorem e2(q:Q1 u):Q2 u:=⟨q,(by ktn_call ["_law_some_here","_law_key_here"] aZ)⟩
noncomputable def Q3(u:U):Prop:=Q2 u/\Ca u 1 "unlike" ["triples"] (bH gz 1 1)
theorem e3(q:Q2 u):Q3 u:=⟨q,(by ktn_call [] gz)⟩
noncomputable def Q4(u:U):Prop:=Q3 u/\Ca u 3 "joined" ["first","second"] (bH gB 2 7)
theorem e4(q:Q3 u):Q4 u:=⟨q,(by ktn_call ["whole","key","old","new","earlier"] gB)⟩
noncomputable def Q5(u:U):Prop:=Q4 u/\Ca u 4 "_law_told" ["_law_first","_law_second"] (bH bM 2 4)
theorem e5(q:Q4 u):Q5 u:=⟨q,(by ktn_call ["_law_found","e"] bM)⟩
noncomputable def Q6(u:U):Prop:=Q5 u/\Ca u 1 "undone" ["some"] (bH dW 1 1)
theorem e6(q:Q5 u):Q6 u:=⟨q,(by ktn_call [] dW)⟩
noncomputable def Q7(u:U):Prop:=Q6 u/\Ca u 1 "_law_word" ["_law_d","_law_cell"] (bH bS 2 6)
theorem e7(q:Q6 u):Q7 u:=⟨q,(by ktn_call ["_law_letters","_law_one","_law_other","_law_word_here"] bS)⟩
noncomputable def Q8(u:U):Prop:=Q7 u/\Ca u 2 "_law_value" ["_law_kind","_law_d","_law_cell"] (bH aL 3 3)
theorem e8(q:Q7 u):Q8 u:=⟨q,(by ktn_call [] aL)⟩
noncomputable def Q9(u:U):Prop:=Q8 u/\Ca u 3 "_law_key" ["_law_p","_law_many","_law_cell"] (bH bW 3 4)
theorem e9(q:Q8 u):Q9 u:=⟨q,(by ktn_call ["_law_digits"] bW)⟩
noncomputable def Gs(u:U):Prop:=Q9 u/\Ca u 4 "_law_row" ["_law_p","_law_w","_law_many","_law_rest","_law_cell"] (bH cD 5 5)
theorem e10(q:Q9 u):Gs u:=⟨q,(by ktn_call [] cD)⟩
noncomputable def Gx(u:U):Prop:=Gs u/\Ca u 1 "_law_cell_at" ["_law_script","_law_k"] (bH bi 2 2)
theorem Ho(q:Gs u):Gx u:=⟨q,(by ktn_call [] bi)⟩
noncomputable def HM(u:U):Prop:=Gx u/\Ca u 5 "_law_tables" ["_law_script","_law_many","_law_rest","_law_count"] (bH bP 4 9)
theorem HP(q:Gx u):HM u:=⟨q,(by ktn_call ["_law_rows","_law_cell","_law_one","_law_p","_law_key_here"] bP)⟩
theorem Fk{f:Ma}{fd:MH}(F:wa u.K "law" "law" (top 18) f fd)(q:HM u):iW u.P u.w u.K u.mg u.base (kT u.P u.w) 6 f fd ["_law_script"] (BH u.K 1 (bH kO 1 13)):=by
 refine HX ["_law_many","_law_rest","_law_one","_law_other","_law_third","_law_last","_law_first","_law_second","_law_due_here","_law_found","_law_back","_law_turned"] F ?_ ?_
 ·exact⟨rfl,rfl,rfl,by decide +kernel,rfl,by decide +kernel,by decide +kernel⟩
 refine λnd=>⟨λcdv A outer s H E hr hp=>?_⟩
 unfold kO;walk_at "d"
set_option hygiene true
variable{P:Mh}{w:Mg}{K:KZ}{mg:bU}{base:Mj}
theorem qw{C f:Ma}{fd:MH}(h1:clsAt K "Stale" C)(hM:FZ K C f)(na:∀g∈(["key"]:ay),f9 K C g)(F:wa K "__init__" "Stale.__init__" fE f fd)(b:Binds K fd ["self","key"] [])(hmg:mg "Stale"=some (.ref C)):k7 P w K mg base 1 "Stale" ["self","key"] ["key"]:=
 sM (k:=0) h1 hM na F b hmg jD rfl (by decide +kernel) (by decide) λcdv A outer s H E=>(uP rfl (pv 0) (pv 1) rfl)
end
theorem all_mk{l:K9}{w:Mg}{K:KZ}{h:Mj}{mg:bU}{fa:Ma}(X:K.In h)(G:h.Ns Ml mg)(hfa:mg "law"=some (.ref fa)){f0 f1:Ma}
  (a0:Lb K Ml "law"=some (some (.ref f0)))
  (l0:Lk K f0 "law" "law" (top 18) oc0 od0 kV0 dc0 pm0 an0 cd0 ct0 sl0)
  (c0:K8 K cd0 "law"=true)
  (k0:La K (.ref f0)=true)
  (xa0:Lb K Ml "Stale"=some (some (.ref Xl0)))
  (a1:K2 K (.ref Xl0) "__init__"=some (some (.ref f1)))
  (i1:PySem.W.isFn K (.ref f1)=true)
  (l1:Lk K f1 "__init__" "Stale.__init__" (inClass (top 2) 0) oc1 od1 kV1 dc1 pm1 an1 cd1 ct1 sl1)
  (c1:K8 K cd1 "Stale.__init__"=true)
  (k1:La K (.ref f1)=true)
  (xs0:K2 K (.ref Xl0) "__setattr__"=some (some (.builtin "object.__setattr__")))
  (xp0:La K (.ref Xl0)=true)
  (xi0:rk K Xl0 f1=true)
  (xy0:rC K Xl0=true)
  (xd0:Lq K Xl0=true)
  (xna0_0:K2 K (.ref Xl0) "key"=some none)
  (xsg:PySem.W.specialIn K (.builtin "object.__class__") "__get__"=some (some (.builtin "getset_descriptor.__get__")))
  (xtk:PySem.W.takesIn K (.builtin "object.__class__")=some true)
  (xg0:K2 K (.ref Xl0) "__getattribute__"=some (some (.builtin "BaseException.__getattribute__")))
  (xn0:K2 K (.ref Xl0) "__getattr__"=some none)
  (xf0:K2 K (.ref Xl0) "__class__"=some (some (.builtin "object.__class__")))
  (xb0:Li K Xl0 (.type "BaseException")=some true)
  (xo0:Li K Xl0 (.type "object")=some true)
  (xt0:Ln K (.ref Xl0)=some (.type "type"))
  (xw0:Lj K (.ref Xl0) (.type "BaseException")=some true)
  (xm0_0:Lj K (.ref Xl0) (.ref Xl0)=some true)
  (dd0:KDs K [("_law_due",top 16),("_law_some",top 15),("unlike",top 4),("joined",top 5),("_law_told",top 17),("undone",top 6),("_law_word",top 9),("_law_value",top 10),("_law_key",top 11),("_law_row",top 12),("_law_cell_at",top 8),("_law_tables",top 13)])
  (zz:KZs K ["sorted","list","tuple","dict","range","len","isinstance"]):
  ∃fd:MH,(∀(s:Mf)(v:L8),MI s fd ⟨[v],[]⟩ [("_law_script",v)])/\∀base:Mj,K.In base->base.Ns Ml mg->iW l.prog w K mg base (kT l.prog w) 6 fa fd ["_law_script"] (BH K 1 (bH kO 1 13)):=by
 have e:=hfa.symm.trans (Lr X G a0);cases e;have F0:=sx (st:=(top 18)) l0 c0 k0;have F1:=sx (st:=(inClass (top 2) 0)) l1 c1 k1;have b1:=F1.binds (ps:=["self","key"]) λ_ _ _ _ _ _ us hl=>by obtain⟨u0,u1,rfl⟩:=CG hl;rfl
 refine⟨K4 "law" "law" (fV (top 18)) (cz (top 18)) (aC (top 18)) .none kV0 dc0 pm0 an0 cd0 ct0,λs v=>.of_eq rfl,λbase _ _=>?_⟩;have xK0:wB K Xl0:=⟨xg0,xn0,xf0,xsg,xtk,xo0,xb0⟩
 have RI_Stale:=qw (P:=l.prog) (w:=w) (base:=base) xa0 (Ee xi0 (beq_iff_eq.mp i1) ⟨xs0,xy0,xd0⟩ xp0) (by intro g hg;simp only[KC,List.mem_nil_iff,or_false]at hg;rcases hg with rfl<;>first|exact xna0_0) F1 b1 (Lr X G xa0);have fx_key_Stale:vV K "key" ["Stale"]:=vQ xa0 xK0 xna0_0 xd0 (yz);have T_Stale:qU K mg "Stale" ["Stale"]:=xx (Lr X G xa0) (by
  intro c hc;simp only[KC,List.mem_nil_iff,or_false]at hc;rcases hc with rfl
  ·exact⟨_,xa0,AB xw0 xm0_0 xo0 xt0⟩)
 let u:U:=⟨l.prog,w,K,mg,base,(0:Nat),(0:Nat)⟩
 have q0:Q0 u:=⟨⟨⟨(GD.of X G (Zs.of X G zz) dd0),RI_Stale⟩,fx_key_Stale⟩,T_Stale⟩
 exact Fk (u:=u) F0 (HP (Ho (e10 (e9 (e8 (e7 (e6 (e5 (e4 (e3 (e2 (e1 q0))))))))))))
theorem walk{l:K9}{q:Mh}{loose:ay}{XP:(bU)->Mj->Prop}{YP:Mg->Mj->Prop}{d:DefRec}{K:Params->KZ}(hn:l.most=some 63)(hdf:d.params.defaults=[])
  (hY:∀(w:Mg)(h:Mj),YP w h->(K w.params).In h)
  (F:∀ (w:Mg) (mg:bU) (fa:Ma) (h:Mj),(K w.params).In h->h.Ns Ml mg->mg d.name=some (.ref fa) ->
   ∃fd:MH,(∀(s:Mf)(u:L8),MI s fd ⟨[u],[]⟩ [("_law_script",u)])/\∀base:Mj,(K w.params).In base->base.Ns Ml mg->iW l.prog w (K w.params) mg base (kT l.prog w) 6 fa fd ["_law_script"] (BH (K w.params) 1 (bH kO 1 13)))
  (math:∀ns:List Int,ns.length<=63->bH kO 1 13 [.lst (ns.map .int)]=.ok (.bl true)):PySem.W.WalkO q loose XP YP l.row.toRowW d [] (λf vs=>PySem.call f vs):=
 L2.Ge (n:=63) (k:=6) (x:="_law_script") (CX:=λw=>kT l.prog w) (sp:=λw=>BH (K w.params) 1 (bH kO 1 13)) hn (by decide) hdf ⟨rfl,by decide,by decide⟩ hY F
  (λw H a ns hl _ hS=>⟨[],[.lst (ns.map .int)],rfl,⟨trivial,λa h=>nomatch h⟩,by rw[Bg];exact aK.mpr ⟨.ref a,[],rfl,bn.mpr ⟨a,_,rfl,hS,oa ns⟩,bB.mpr rfl⟩,by rw[math ns hl];exact λv H' _ d=>gC.mp d⟩) λ_ _ _ _ _ z=>by obtain⟨_,_,_,_,_,_,_,_,_,_,_,_,_,_,z⟩:=z;exact z
end Tk13
namespace Tk13
open PySem PySem.Spec L2 TG TD T4
local macro_rules|`(‹$x›)=>do if x.raw.isOfKind `num then Lean.Macro.throwUnsupported else `(some (S.val $x))
local macro_rules
 |`(tactic| simp! only[$xs,*])=>`(tactic| simp only[cO,oo,nV,ol,fM,cA,ge_0,uX,jJ,vN,ko,hV,jW,jO,vD,vk,u9,vB,vm,j0,kJ,m5,fN,ii,kH,iy,nF,jT,kx,iF,jN,fJ,kr,fA,eZ,dQ,dM,ki,g9,dP,ir,eN,iM,iK,ip,iH,fm,ku,iR,fu,iP,h7,iE,uO,nD,uT,vh,vH,j9,iA,km,iO,iz,uV,uQ,KR,KS,Jg,Jf,Jv,JE,K0,env0,List.replicate,KJ,IM,Kf,Nat.reduceAdd,Nat.reduceSub,Jl,Jm,jV,kD,nY,kf,jU,kI,dL,jZ,nA,oh,nX,jY,fg,fD,fh,eX,fj,eS,n0,ng,mY,i3,ju,mI,fH,fw,c7,c9,jP,dR,df,cY,cW,jK,kC,cX,de,eR,fG,iG,ig,fq,iq,kn,j6,iw,iB,gN,if_true,if_false,J3,J1,Jt,$xs,*])
theorem gm(j:Int)(h:0<j:=by decide):∀i:Int,cf (.int i) (.int j)=some (.int (i%j)):=λi=>xo (i:=i) h
theorem gd(j:Int)(h:0<j:=by decide)(h':j<10^200:=by decide):∀i:Int,dB (.int i) (.int j)=some (.int (i/j)):=λi=>lC (i:=i) h h'
noncomputable def Ok(n:Nat)(d:D):Prop:=pl d=true/\lf d=true/\bz n d=true
theorem oO(n:Nat)(i:Int):Ok n (.int i):=⟨by unfold pl;rfl,by unfold lf;rfl,by cases n<;>(unfold bz;rfl)⟩
theorem o9(n:Nat)(x:Str):Ok n (.str x):=⟨by unfold pl;rfl,by unfold lf;rfl,by cases n<;>(unfold bz;rfl)⟩
theorem DB(n:Nat):Ok n .non:=⟨by unfold pl;rfl,by unfold lf;rfl,by cases n<;>(unfold bz;rfl)⟩
theorem ut:∀{xs:List D},(∀x∈xs,lf x=true)->BF xs=true
 |[],_=>by unfold BF;rfl
 |x::xs,h=>by
  unfold BF;rw[Jc];exact⟨h x IB,ut λy hy=>h y (IC _ hy)⟩
theorem i6{n:Nat}{xs:List D}(h:∀x∈xs,Ok n x):Ok (n+1) (.tup xs):=
 ⟨by unfold pl;exact o6 λx hx=>(h x hx).1,by unfold lf;exact ut λx hx=>(h x hx).2.1,by unfold bz;exact List.all_eq_true.mpr λx hx=>(h x hx).2.2⟩
theorem pF:∀{n:Nat}{d:D},bz n d=true->bz (n+1) d=true
 |n,.non,_=>by unfold bz;rfl
 |n,.bl _,_=>by unfold bz;rfl
 |n,.int _,_=>by unfold bz;rfl
 |n,.str _,_=>by unfold bz;rfl
 |0,.tup _,h=>by unfold bz at h;cases h
 |0,.lst _,h=>by unfold bz at h;cases h
 |n+1,.tup xs,h=>by
  unfold bz at h ⊢;exact List.all_eq_true.mpr λx hx=>pF (List.all_eq_true.mp h x hx)
 |n+1,.lst xs,h=>by
  unfold bz at h ⊢;exact List.all_eq_true.mpr λx hx=>pF (List.all_eq_true.mp h x hx)
 |n,.dct _ _,h=>by cases n<;>(unfold bz at h;cases h)
 |n,.obj _ _ _,h=>by cases n<;>(unfold bz at h;cases h)
 |n,.exc _ _ _,h=>by cases n<;>(unfold bz at h;cases h)
theorem Ok.up{n:Nat}{d:D}(h:Ok n d):Ok (n+1) d:=⟨h.1,h.2.1,pF h.2.2⟩
theorem sC(n:Nat)(q:aE):Ok (n+1) (.tup (q.map aJ)):=i6 λx hx=>by
 obtain⟨k,_,rfl⟩:=List.mem_map.mp hx;cases k with
 |inl i=>exact oO n i
 |inr z=>exact o9 n z
theorem p6{a b:D}(ha:Ok 8 a)(hb:Ok 8 b):dY a b=some (.bl (!pyEq a b)):=by
 unfold dY;rw[ha.1,hb.1,ha.2.2];rfl
theorem Bu(a b:Str)(a1:a.length=1)(b1:b.length=1):∀(m n d:Nat)(w:Str),d<2^m->m<=n->w.length+m<=900->∃(w':Str)(d':Int),w'.length<=w.length+m/\∀K:Ks,
  cP (fB (f2 DV (aa 0) (fC (.int 1)))) (aA (bF 5 (f2 eV (f2 aR (dD (af (aa 3) (af (aa 4) ao))) (f2 cf (aa 0) (fC (.int 2)))) (aa 5))) (bF 0 (f2 dB (aa 0) (fC (.int 2))))) K (n+1) [‹.int d›,none,none,‹.str a›,‹.str b›,‹.str w›]=K.nx [‹.int d'›,none,none,‹.str a›,‹.str b›,‹.str w'›]:=by
 intro m
 induction m with
 |zero=>
  intro n d w h1 h2 h3
  have:d=0:=by omega
  subst this;refine⟨w,0,IJ _,λK=>?_⟩;have hd:decide ((1:Int)<((0:Nat):Int))=false:=by decide
  simp! only[Du,hd];rfl
 |succ m ih=>
  intro n d w h1 h2 h3;by_cases h:1<d
  ·obtain⟨n,rfl⟩:∃n',n=n'+1:=⟨n-1,by omega⟩
   have hd:decide ((1:Int)<(d:Int))=true:=decide_eq_true `o;obtain⟨y,y1,hy⟩:∃y:Str,y.length=1/\aR (.lst [.str a,.str b]) (.int ((d:Int)%2))=some (.str y):=by
    rcases(show(d:Int)%2=0\/(d:Int)%2=1 by omega)with e|e
    ·rw[e];exact⟨a,a1,i3 _ _⟩
    ·rw[e];exact⟨b,b1,ju _ _ _⟩
   have ad:=wo y w `o `o;have l2:=zE y w;have p2:2^(m+1)=2*2^m:=(by rw[Nat.pow_succ,Nat.mul_comm]);have p3:d/2<2^m:=(by omega);obtain⟨w',d',q1,q2⟩:=ih n (d/2) (y++w) p3 `o `o;have e2:((d/2:Nat):Int)=(d:Int)/2:=(by omega);rw[e2]at q2;refine⟨w',d',by omega,λK=>?_⟩;have ml:eU [.str a,.str b]=some (.lst [.str a,.str b]):=gH (by simp);rw[Du];simp! only[hd,gm 2,gd 2,ml,hy,ad,q2]
  ·refine⟨w,d,by omega,λK=>?_⟩;have hd:decide ((1:Int)<(d:Int))=false:=decide_eq_false `o;simp! only[Du,hd]
theorem t8(d:Nat)(c:Int)(h:d<500):∃w:Str,bH bS 2 6 [.int d,.int c]=.ok (.str w):=by
 have l26:("abcdefghijklmnopqrstuvwxyz":Str).length=26:=by decide +kernel
 obtain⟨a,a1,ha⟩:=tO "abcdefghijklmnopqrstuvwxyz" (by rw[l26];decide) (c%26) `o (by rw[l26];omega);obtain⟨b,b1,hb⟩:=tO "abcdefghijklmnopqrstuvwxyz" (by rw[l26];decide) ((c+1+c/26%25)%26) `o (by rw[l26];omega);have l0:("":Str).length=0:=by decide +kernel
 obtain⟨w,d',_,q⟩:=Bu a b a1 b1 9 199 (d+1) "" `o `o (by rw[l0];omega);have e1:((d+1:Nat):Int)=(d:Int)+1:=by omega
 rw[e1]at q;refine⟨w,?_⟩;rw[lI];unfold bS;simp! only[gm 26,gm 25,gd 26,ha,hb,TG.Ej,q]
theorem EB(d c:Int)(h0:0<=d)(h1:d<500):∃i:Int,bH aL 3 3 [.int 0,.int d,.int c]=.ok (.int i):=by
 have p54:=yC 10 54 (by decide) (by decide);have p50:=yC 10 50 (by decide) (by decide);obtain⟨x,hx⟩:∃x:Int,aR (.lst [.int 1,.int (-1),.int (10^54),.int (-10^54)]) (.int (c%4))=some (.int x):=by
  rw[HB,show([.int 1,.int (-1),.int (10^54),.int (-10^54)]:List D)=([1,-1,10^54,-10^54]:List Int).map .int from rfl,uE,uw `o (by show c%4<4;omega)];exact⟨_,rfl⟩
 have ml:eU [.int 1,.int (-1),.int (10^54),.int (-10^54)]=some (.lst [.int 1,.int (-1),.int (10^54),.int (-10^54)]):=gH (by simp);have m1:=tT (i:=d) (j:=7919) (by decide) (by decide);have m2:=tT (i:=5) (j:=7919) (by decide) (by decide);have m3:=oF (i:=d*7919-5*7919) (j:=x) `o `o;have z0:((0:Int)==0)=true:=rfl;refine⟨(d*7919-5*7919)*x+c/4%10^50,?_⟩;rw[j7];unfold aL;have g50:=gm (10^50) (by decide) (c/4);have p54':qo (.int 10) (.int 54)=some (.int (10^54)):=p54;have p50':qo (.int 10) (.int 50)=some (.int (10^50)):=p50;generalize (10:Int)^54=P at *;generalize (10:Int)^50=Q at *;simp! only[z0,p54',p50',gm 4,gd 4,ml,hx,m1,m2,m3,g50]
theorem E9(d:Nat)(c:Int)(h:d<500):∃w:Str,bH aL 3 3 [.int 1,.int d,.int c]=.ok (.str w):=by
 obtain⟨w,hw⟩:=t8 d c h;have z0:((1:Int)==0)=false:=rfl;have z1:((1:Int)==1)=true:=rfl;refine⟨w,?_⟩;rw[j7];unfold aL;simp! only[z0,z1,hw]
theorem Hl(d c:Int):∃v:D,bH aL 3 3 [.int 2,.int d,.int c]=.ok v/\Ok 2 v:=by
 have z0:((2:Int)==0)=false:=rfl;have z1:((2:Int)==1)=false:=rfl;obtain⟨n,en,hn⟩:∃n:Nat,d%4=(n:Int)/\n<4:=⟨(d%4).toNat,by omega,by omega⟩
 have rg:=iC n `o;obtain⟨vs,vl,vp,hv⟩:=mm (ρ:=[none,‹.int c›]) (g:=gN 0) (C:=b9) (Fe:=bJ (af (aa 0) (af (fR (bH bS 2 6) (af (aa 0) (af (aa 1) ao))) ao))) (λv=>Ok 1 v) (bA 0 n) λx hx=>by
  obtain⟨k,hk,rfl⟩:=mj hx;obtain⟨w,hw⟩:=t8 k c `o;have e0:(0:Int)+(k:Int)=(k:Int):=by omega
  rw[e0];have mt:cS [.int k,.str w]=some (.tup [.int k,.str w]):=eF (by simp);refine⟨[‹.int k›,‹.int c›],.tup [.int k,.str w],rfl,rfl,?_,i6 λx hx=>?_⟩
  ·simp! only[hw,mt]
  ·rcases List.mem_cons.mp hx with z|hx
   ·rw[z];exact oO _ _
   ·rw[List.mem_singleton.mp hx];exact o9 _ _
 rw[cG]at vl;have lc:fW [none,some 2] (cB (af (f2 cf (aa 1) (fC (.int 4))) ao)) (gN 0) b9 (bJ (af (aa 0) (af (fR (bH bS 2 6) (af (aa 0) (af (aa 1) ao))) ao))) [‹.int 2›,‹.int d›,‹.int c›]=.ok (.lst vs):=ez (ds:=bA 0 n) (by simp! only[gm 4,en,rg]) (by rw[cG];omega) hv;refine⟨.tup vs,?_,i6 vp⟩;rw[j7];unfold aL;simp! only[z0,z1,lc]
theorem DU(κ:Int)(k0:0<=κ)(k2:κ<3)(d:Nat)(c:Int)(h:d<500):∃v:D,bH aL 3 3 [.int κ,.int d,.int c]=.ok v/\Ok 2 v:=by
 rcases(show κ=0\/κ=1\/κ=2 by omega)with e|e|e
 ·obtain⟨i,hi⟩:=EB d c `o `o;rw[e];exact⟨_,hi,oO _ _⟩
 ·obtain⟨w,hw⟩:=E9 d c h;rw[e];exact⟨_,hw,o9 _ _⟩
 ·rw[e];exact Hl d c
theorem Bl(κ:Int)(k0:0<=κ)(k1:κ<2)(d:Nat)(c:Int)(h:d<500):∃k:Key,bH aL 3 3 [.int κ,.int d,.int c]=.ok (aJ k)/\∀{σ:a8}{r:List D},Sh σ r->Sh ((κ==0)::σ) (aJ k::r):=by
 rcases(show κ=0\/κ=1 by omega)with e|e
 ·obtain⟨i,hi⟩:=EB d c `o `o;rw[e];exact⟨.inl i,hi,λh=>.int i h⟩
 ·obtain⟨w,hw⟩:=E9 d c h;rw[e];exact⟨.inr w,hw,λh=>.str w h⟩
noncomputable def sg(m:Nat)(c:Int):a8:=([c/2%2==0,c/3%2==0,c/4%2==0]:a8).take m
noncomputable abbrev fK:FX:=fR (bH aL 3 3) (af (f2 cf (f2 dB (aa 1) (f2 eV (aa 0) (fC (.int 2)))) (fC (.int 2))) (af (f2 aR (aa 2) (aa 0)) (af (aa 1) ao)))
theorem C5(c:Int)(L:List D)(k:Int)(k0:0<=k)(k3:k<3)(d:Nat)(hd:d<500)(e:aR (.lst L) (.int k)=some (.int d)):∃q:Key,fK [‹.int k›,‹.int c›,‹.lst L›]=.ok (aJ q)/\∀{σ:a8}{r:List D},Sh σ r->Sh ((c/(k+2)%2==0)::σ) (aJ q::r):=by
 obtain⟨q,hq,s⟩:=Bl (c/(k+2)%2) `o `o d c hd;have dv:=lC (i:=c) (j:=k+2) `o (KU (show k+2<5 by omega) (by decide));refine⟨q,?_,s⟩;unfold fK;simp! only[dv,gm 2,e,hq]
theorem CH(m:Nat)(m1:1<=m)(m3:m<=3)(c:Int)(x:Option S)(ds:aT)(hl:ds.length=m)(hd:∀d∈ds,d<500):∃q:aE,fW [none,some 2,some 3] (cB (af (aa 1) ao)) (gN 0) b9 fK [x,‹.int m›,‹.int c›,‹.lst (ds.map λ(d:Nat)=>.int d)›]=.ok (.lst (q.map aJ))/\Sh (sg m c) (q.map aJ):=by
 have rg:=iC m `o;have fin:∀r:List D,ri [none,‹.int c›,‹.lst (ds.map λ(d:Nat)=>.int d)›] (gN 0) b9 fK (bA 0 m)=.ok r->fW [none,some 2,some 3] (cB (af (aa 1) ao)) (gN 0) b9 fK [x,‹.int m›,‹.int c›,‹.lst (ds.map λ(d:Nat)=>.int d)›]=.ok (.lst r):=λr h=>ez (ds:=bA 0 m) (by simp! only[rg]) (by rw[cG];omega) h;have E:=λ(k:Int)(k0:0<=k)(k3:k<3)(d:Nat)(hd':d<500)(e:aR (.lst (ds.map λ(d:Nat)=>.int d)) (.int k)=some (.int d))=>C5 c _ k k0 k3 d hd' e;rcases(show m=1\/m=2\/m=3 by omega)with e|e|e
 ·subst e;obtain⟨a,rfl⟩:=List.length_eq_one_iff.mp hl;obtain⟨q0,h0,s0⟩:=E 0 (by decide) (by decide) a (hd a (by simp)) (i3 _ _);refine⟨[q0],fin _ ?_,s0 .nil⟩;rw[show bA 0 1=[.int 0]from rfl];generalize fK=F at h0 ⊢;simp! only[ri,fM]at h0 ⊢;simp! only[h0]
 ·subst e;obtain⟨a,b,rfl⟩:∃a b,ds=[a,b]:=by
   rcases ds with _|⟨a,_|⟨b,_|⟨d,r⟩⟩⟩<;>first|exact⟨_,_,rfl⟩|(exfalso;simp at hl)
  obtain⟨q0,h0,s0⟩:=E 0 (by decide) (by decide) a (hd a (by simp)) (i3 _ _);obtain⟨q1,h1,s1⟩:=E 1 (by decide) (by decide) b (hd b (by simp)) (ju _ _ _);refine⟨[q0,q1],fin _ ?_,s0 (s1 .nil)⟩;rw[show bA 0 2=[.int 0,.int 1]from rfl];generalize fK=F at h0 h1 ⊢;simp! only[ri,fM]at h0 h1 ⊢;simp! only[h0,h1]
 ·subst e;obtain⟨a,b,d,rfl⟩:∃a b d,ds=[a,b,d]:=by
   rcases ds with _|⟨a,_|⟨b,_|⟨d,_|⟨e,r⟩⟩⟩⟩<;>first|exact⟨_,_,_,rfl⟩|(exfalso;simp at hl)
  obtain⟨q0,h0,s0⟩:=E 0 (by decide) (by decide) a (hd a (by simp)) (i3 _ _);obtain⟨q1,h1,s1⟩:=E 1 (by decide) (by decide) b (hd b (by simp)) (ju _ _ _);obtain⟨q2,h2,s2⟩:=E 2 (by decide) (by decide) d (hd d (by simp)) (mI _ _ _ _);refine⟨[q0,q1,q2],fin _ ?_,s0 (s1 (s2 .nil))⟩;rw[show bA 0 3=[.int 0,.int 1,.int 2]from rfl];generalize fK=F at h0 h1 h2 ⊢;simp! only[ri,fM]at h0 h1 h2 ⊢;simp! only[h0,h1,h2]
theorem wv(p:Nat)(hp:p<20)(m:Nat)(m1:1<=m)(m3:m<=3)(c:Int):∃q:aE,bH bW 3 4 [.int p,.int m,.int c]=.ok (.tup (q.map aJ))/\Sh (sg m c) (q.map aJ):=by
 have BJ:=gH (xs:=[.int p]) (by simp);have HF:=gH (xs:=[.int ((p:Int)%3),.int ((p:Int)/3)]) (by simp);have ml3:=gH (xs:=[.int ((p:Int)%2),.int ((p:Int)/2%3),.int ((p:Int)/6)]) (by simp);have L:=CH m m1 m3 c (‹.int p›);rcases(show m=1\/m=2\/m=3 by omega)with e|e|e
 ·subst e;obtain⟨q,hq,s⟩:=L [p] rfl (by simp;omega);have hq:fW _ _ _ _ _ [_,_,_,‹.lst [.int p]›]=_:=hq;refine⟨q,?_,s⟩;have c1:decide ((1:Int)<((1:Nat):Int))=false:=by decide
  have c2:decide ((2:Int)<((1:Nat):Int))=false:=by decide
  rw[j7];unfold bW;simp! only[BJ,c1,c2,hq]
 ·subst e;obtain⟨q,hq,s⟩:=L [p%3,p/3] rfl (by simp;omega);have hq:fW _ _ _ _ _ [_,_,_,‹.lst [.int ((p%3:Nat):Int),.int ((p/3:Nat):Int)]›]=_:=hq;rw[show((p%3:Nat):Int)=(p:Int)%3 by omega,show((p/3:Nat):Int)=(p:Int)/3 by omega]at hq;refine⟨q,?_,s⟩;have c1:decide ((1:Int)<((2:Nat):Int))=true:=by decide
  have c2:decide ((2:Int)<((2:Nat):Int))=false:=by decide
  rw[j7];unfold bW;simp! only[BJ,HF,gm 3,gd 3,c1,c2,hq]
 ·subst e;obtain⟨q,hq,s⟩:=L [p%2,p/2%3,p/6] rfl (by simp;omega);have hq:fW _ _ _ _ _ [_,_,_,‹.lst [.int ((p%2:Nat):Int),.int ((p/2%3:Nat):Int),.int ((p/6:Nat):Int)]›]=_:=hq;rw[show((p%2:Nat):Int)=(p:Int)%2 by omega,show((p/2%3:Nat):Int)=(p:Int)/2%3 by omega,show((p/6:Nat):Int)=(p:Int)/6 by omega]at hq;refine⟨q,?_,s⟩;have c1:decide ((1:Int)<((3:Nat):Int))=true:=by decide
  have c2:decide ((2:Int)<((3:Nat):Int))=true:=by decide
  rw[j7];unfold bW;simp! only[BJ,HF,ml3,gm 3,gd 3,gm 2,gd 2,gd 6,c1,c2,hq]
theorem Dt(p:Nat)(hp:p<20)(w:Nat)(hw:w<5)(m:Nat)(m1:1<=m)(m3:m<=3)(r:Nat)(r3:r<=3)(c:Int):∃v:D,bH cD 5 5 [.int p,.int w,.int m,.int r,.int c]=.ok v/\Ok 3 v:=by
 obtain⟨q,hq,s⟩:=wv p hp m m1 m3 c;have rg:=iC r `o;obtain⟨vs,vl,vp,hv⟩:=mm (ρ:=[none,‹.int c›,‹.int w›]) (g:=gN 0) (C:=b9) (Fe:=fR (bH aL 3 3) (af (f2 cf (f2 eV (f2 dB (aa 1) (fC (.int 7))) (aa 0)) (fC (.int 3))) (af (aa 2) (af (aa 1) ao)))) (λv=>Ok 2 v) (bA 0 r) λx hx=>by
  obtain⟨k,hk,rfl⟩:=mj hx;obtain⟨v,hv,o⟩:=DU ((c/7+(0+(k:Int)))%3) `o `o w c `o;exact⟨[‹.int (0+(k:Int))›,‹.int c›,‹.int w›],v,rfl,rfl,by simp! only[gd 7,gm 3,hv],o⟩
 rw[cG]at vl;have lc:∀a b:Option S,fW [none,some 4,some 1] (cB (af (aa 3) ao)) (gN 0) b9 (fR (bH aL 3 3) (af (f2 cf (f2 eV (f2 dB (aa 1) (fC (.int 7))) (aa 0)) (fC (.int 3))) (af (aa 2) (af (aa 1) ao)))) [a,‹.int w›,b,‹.int r›,‹.int c›]=.ok (.lst vs):=λ_ _=>ez (ds:=bA 0 r) (by simp! only[rg]) (by rw[cG];omega) hv;have ql:(q.map aJ).length=(sg m c).length:=s.length;have q3:(sg m c).length<=3:=by unfold sg;rw[IQ];simp;omega
 have ad:=x8 (q.map aJ) vs `o;refine⟨.tup (q.map aJ++vs),?_,i6 λx hx=>?_⟩
 ·rw[C3];unfold cD;simp! only[hq,lc,ad]
 ·rcases List.mem_append.mp hx with z|z
  ·obtain⟨k,_,rfl⟩:=List.mem_map.mp z;cases k with
   |inl i=>exact oO _ _
   |inr z=>exact o9 _ _
  ·exact vp x z
noncomputable abbrev fO:=List (List Key×D)
theorem xZ{i:Nat}{G:aN}{k:Ks}{ρ:ak}{ds:List D}(h:G ρ=.ok ds)(hn:Br ρ=true)(hl:ds.length<=100000):gZ i G k ρ=k.nx (ρ.set i (some (.nest (.lst (ds.map λ_=>.dct [] []))))):=by
 unfold gZ;rw[h];show(if Br ρ&&small ds.length then _ else _)=_;rw[hn,bY hl];rfl
theorem tH{i:Nat}{u:List D->D->D->D->iU}{fe fk fv:FX}{k:Ks}{ρ:ak}{xs ys:List D}{c q v:D}(h:ρ[i]?=some (some (.nest (.lst xs))))(e1:fv ρ=.ok v)(e2:fe ρ=.ok c)(e3:fk ρ=.ok q)(e4:u xs c q v=some ys):gh i u fe fk fv k ρ=k.nx (ρ.set i (some (.nest (.lst ys)))):=by
 unfold gh;rw[h];show(pM (fv ρ)).bind _=_;rw[e1];show(pM (fe ρ)).bind _=_;rw[e2];show(pM (fk ρ)).bind _=_;rw[e3];show(rO (u xs c q v)).bind _=_;rw[e4];rfl
theorem Dg(as:List fO)(c:Nat)(al:fO)(hc:as[c]?=some al)(q:aE)(v:D)(hl:al.length<=100000):gG (as.map az) (.int (c:Int)) (.tup (q.map aJ)) v=some ((as.set c (cn al q v)).map az):=by
 show(match(as.map az)[c]? with
  |some (.dct ks ds)=>(gR ks ds (.tup (q.map aJ)) v).map λal=>(as.map az).set c (az al)
  |_=>none)=_
 rw[IV,hc];show(gR (encK al) (al.map (·.2)) (.tup (q.map aJ)) v).map _=_;unfold gR;rw[cx];show((cy (.tup (q.map aJ))).bind _).map _=_;rw[cR];show(if small al.length then some (cn al q v)else none).map _=_;rw[bY hl,List.map_set];rfl
theorem CM(as:List fO)(c:Nat)(al:fO)(hc:as[c]?=some al)(q:aE)(v:D):gP (as.map az) (.int (c:Int)) (.tup (q.map aJ)) v=some ((as.set c (g6 al q)).map az):=by
 show(match(as.map az)[c]? with
  |some (.dct ks ds)=>(dS ks ds).bind λal=>(cy (.tup (q.map aJ))).map λq=>(as.map az).set c (az (g6 al q))
  |_=>none)=_
 rw[IV,hc];show(dS (encK al) (al.map (·.2))).bind _=_;rw[cx];show(cy (.tup (q.map aJ))).map _=_;rw[cR,List.map_set];rfl
theorem nJ:∀as:List fO,nq (as.map az)=some as
 |[]=>rfl
 |al::as=>by
  show(dS (encK al) (al.map (·.2))).bind _=_;rw[cx];show(nq (as.map az)).map _=_;rw[nJ as];rfl
theorem wY{i:Nat}{F:bG}{k:Ks}{ρ:ak}{as:List fO}(h:ρ[i]?=some (some (.nest (.lst (as.map az))))):j8 i F k ρ=F k (setV i (.lst (as.map bE)) ρ):=by
 unfold j8 we;rw[h];dsimp only;rw[nJ]
structure Tb(σ:a8)(n:Nat)(al:fO):Prop where
 sh:∀p∈al,Sh σ (p.1.map aJ)/\Ok 3 p.2
 nd:(al.map (·.1)).Nodup
 ln:al.length<=n
theorem Tb.put{σ:a8}{n:Nat}{al:fO}(h:Tb σ n al){q:aE}{v:D}(hq:Sh σ (q.map aJ))(hv:Ok 3 v):Tb σ (n+1) (cn al q v):=
 ⟨fun p hp=>by
  rcases wV hp with z|z
  ·exact h.sh p z
  ·rw[z];exact⟨hq,hv⟩,um q v h.nd,Iy (qJ al q v) (Nat.succ_le_succ h.ln)⟩
theorem Tb.drop{σ:a8}{n:Nat}{al:fO}(h:Tb σ n al)(q:aE):Tb σ (n+1) (g6 al q):=
 ⟨λp hp=>h.sh p (List.mem_filter.mp hp).1,h.nd.sublist (List.Sublist.map _ KN),Iy (KP _ _) (Nat.le_succ_of_le h.ln)⟩
theorem Tb.up{σ:a8}{n:Nat}{al:fO}(h:Tb σ n al):Tb σ (n+1) al:=⟨h.sh,h.nd,Nat.le_succ_of_le h.ln⟩
theorem ul{P:fO->Prop}{as:List fO}{c:Nat}{x:fO}(h:∀a∈as,P a)(hx:P x):∀a∈as.set c x,P a:=λa ha=>by
 rcases List.mem_or_eq_of_mem_set ha with z|z
 ·exact h a z
 ·rw[z];exact hx
theorem tS:bi=BM:=rfl
theorem vP(ns:List Int)(m:Nat)(m1:1<=m)(m3:m<=3)(r:Nat)(r3:r<=3)(n:Nat)(n1:1<=n)(n4:n<=4)(hl:ns.length<=63):∃as:List fO,bH bP 4 9 [.lst (ns.map .int),.int m,.int r,.int n]=.ok (.lst (as.map bE))/\as.length=n/\∀al∈as,Tb (sg m (ns.getD 0 0/16)) 63 al:=by
 have rg:=iC n `o;have c0:=sX ns 0;rw[<-tS]at c0;have c0:bH bi 2 2 [.lst (ns.map .int),.int 0]=.ok (.int (ns.getD 0 0)):=c0;generalize ns.getD 0 0=z at c0 ⊢;obtain⟨B,hB⟩:∃F:bG,F=(aA (bF 7 (f2 cf (f2 dB (aa 6) (aa 3)) (fC (.int 20)))) (aA (bF 8 (fR (bH bW 3 4) (af (aa 7) (af (aa 1) (af (aa 5) ao))))) (aA (i7 (fB (f2 pV (f2 cf (f2 dB (aa 6) (f2 kY (fC (.int 20)) (aa 3))) (fC (.int 4))) (fC (.int 0)))) (gh 4 gP (f2 cf (aa 6) (aa 3)) (aa 8) (fC .non)) (gh 4 gG (f2 cf (aa 6) (aa 3)) (aa 8) (fR (bH cD 5 5) (af (aa 7) (af (f2 cf (f2 dB (aa 6) (f2 kY (fC (.int 80)) (aa 3))) (fC (.int 5))) (af (aa 1) (af (aa 2) (af (aa 5) ao)))))))) (bI [6,7,8] bj)))):=⟨_,rfl⟩
 obtain⟨as0,e0,l0,t0⟩:∃as:List fO,(bA 0 n).map (λ_=>D.dct [] [])=as.map az/\as.length=n/\∀al∈as,Tb (sg m (z/16)) 0 al:=⟨List.replicate n [],by
  rw[List.map_replicate,List.map_const',cG];rfl,Ja,λal ha=>by
  rw[(List.mem_replicate.mp ha).2];exact⟨λp hp=>(nomatch hp),Jr,IJ _⟩⟩
 have nw:∀(k:Ks),gZ 4 (cB (af (aa 3) ao)) k [‹.lst (ns.map .int)›,‹.int m›,‹.int r›,‹.int n›,none,none,none,none,none]=k.nx [‹.lst (ns.map .int)›,‹.int m›,‹.int r›,‹.int n›,some (.nest (.lst (as0.map az))),none,none,none,none]:=λk=>by
  rw[xZ (ds:=bA 0 n) (by simp! only[rg]) rfl (by rw[cG];omega),e0];rfl
 have fin:∀Q:R D->Prop,(∀as:List fO,as.length=n->(∀al∈as,Tb (sg m (z/16)) 63 al)->Q (.ok (.lst (as.map bE))))->Q (bH bP 4 9 [.lst (ns.map .int),.int m,.int r,.int n]):=λQ hQ=>by
  rw[DZ];unfold bP;rw[<-hB];simp! only[nw,c0,gd 16,Bk];refine k8 (Q:=Q) (λi ρ=>∃as:List fO,as.length=n/\(∀al∈as,Tb (sg m (z/16)) i al)/\ρ=[‹.lst (ns.map .int)›,‹.int m›,‹.int r›,‹.int n›,some (.nest (.lst (as.map az))),‹.int (z/16)›,none,none,none]) ?_ ⟨as0,l0,t0,rfl⟩ ?_
  ·rintro i d ρ kk hd ⟨as,al,at',rfl⟩;rw[IV]at hd;obtain⟨x,hx,rfl⟩:=Option.map_eq_some_iff.mp hd;obtain⟨p,ep,hp⟩:∃p:Nat,x/n%20=(p:Int)/\p<20:=⟨(x/n%20).toNat,by omega,by omega⟩
   obtain⟨w,ew,hw⟩:∃w:Nat,x/(80*n)%5=(w:Int)/\w<5:=⟨(x/(80*n)%5).toNat,by omega,by omega⟩
   have nz:(0:Int)<n:=(by omega);have xm0:=Int.emod_nonneg x (Int.ne_of_gt nz);have xm1:=Int.emod_lt_of_pos x nz;obtain⟨c,ec,hc⟩:∃c:Nat,x%n=(c:Int)/\c<as.length:=⟨(x%n).toNat,by omega,by omega⟩
   have hc':as[c]?=some as[c]:=Jz hc;have tc:=at' as[c] (JZ hc);obtain⟨q,hq,sq⟩:=wv p hp m m1 m3 (z/16);obtain⟨v,hv,ov⟩:=Dt p hp w hw m m1 m3 r r3 (z/16);have big:(400:Int)<10^200:=(by decide);have d1:=lC (i:=x) (j:=n) nz (KU (show(n:Int)<400 by omega) big);have d20:=lC (i:=x) (j:=20*n) `o (KU (show 20*(n:Int)<400 by omega) big);have d80:=lC (i:=x) (j:=80*n) `o (KU (show 80*(n:Int)<400 by omega) big);have mn:=xo (i:=x) nz;have u20:=oF (i:=20) (j:=n) (by decide) (by decide);have u80:=oF (i:=80) (j:=n) (by decide) (by decide);by_cases e:x/(20*n)%4=0
   ·have eb:(x/(20*n)%4==0)=true:=(by rw[e];rfl);refine⟨_,_,rfl,⟨as.set c (g6 as[c] q),by rw[JN];exact al,ul (λa ha=>(at' a ha).up) (tc.drop q),rfl⟩,?_⟩;have up:=λ(K:Ks)=>tH (i:=4) (u:=gP) (fe:=f2 cf (aa 6) (aa 3)) (fk:=aa 8) (fv:=fC .non) (k:=K) (ρ:=[‹.lst (ns.map .int)›,‹.int m›,‹.int r›,‹.int n›,some (.nest (.lst (as.map az))),‹.int (z/16)›,‹.int x›,‹.int p›,‹.tup (q.map aJ)›]) rfl rfl (by simp! only[mn,ec]) rfl (CM as c as[c] hc' q .non);rw[hB];simp! only[d1,d20,gm 20,gm 4,u20,ep,hq,eb,up]
   ·have eb:(x/(20*n)%4==0)=false:=beq_eq_false_iff_ne.mpr e;refine⟨_,_,rfl,⟨as.set c (cn as[c] q v),by rw[JN];exact al,ul (λa ha=>(at' a ha).up) (tc.put sq ov),rfl⟩,?_⟩;have hi:=jR hx;have cl:(cutD ns (some 1) (some 241)).length<=ns.length:=by
     have:=List.Sublist.length_le (show(cutD ns (some 1) (some 241)).Sublist ns from(IW _ _).trans (Km _ _))
     exact this
    have up:=λ(K:Ks)=>tH (i:=4) (u:=gG) (fe:=f2 cf (aa 6) (aa 3)) (fk:=aa 8) (fv:=fR (bH cD 5 5) (af (aa 7) (af (f2 cf (f2 dB (aa 6) (f2 kY (fC (.int 80)) (aa 3))) (fC (.int 5))) (af (aa 1) (af (aa 2) (af (aa 5) ao)))))) (k:=K) (ρ:=[‹.lst (ns.map .int)›,‹.int m›,‹.int r›,‹.int n›,some (.nest (.lst (as.map az))),‹.int (z/16)›,‹.int x›,‹.int p›,‹.tup (q.map aJ)›]) rfl (by simp! only[u80,d80,gm 5,ew,hv]) (by simp! only[mn,ec]) rfl (Dg as c as[c] hc' q v (by have:=tc.ln;omega));rw[hB];simp! only[d1,d20,gm 20,gm 4,u20,ep,hq,eb,up]
  ·rintro ρ' ⟨as,al,at',rfl⟩;rw[IZ]at at';have cl:(cutD ns (some 1) (some 241)).length<=ns.length:=List.Sublist.length_le (show(cutD ns (some 1) (some 241)).Sublist ns from(IW _ _).trans (Km _ _));have ef:=λ(F:bG)(k:Ks)=>wY (i:=4) (F:=F) (k:=k) (ρ:=[‹.lst (ns.map .int)›,‹.int m›,‹.int r›,‹.int n›,some (.nest (.lst (as.map az))),‹.int (z/16)›,none,none,none]) (as:=as) rfl;have h:=hQ as al λa ha=>⟨(at' a ha).sh,(at' a ha).nd,by have:=(at' a ha).ln;omega⟩
   simp! only[ef];exact h
 exact fin (λx=>∃as:List fO,x=.ok (.lst (as.map bE))/\as.length=n/\∀al∈as,Tb (sg m (z/16)) 63 al) λas h1 h2=>⟨as,rfl,h1,h2⟩
noncomputable abbrev kE(q:aE):D:=.tup (q.map aJ)
noncomputable abbrev kk(q:aE):List D:=q.map aJ
theorem tZ(q:aE):∀ks:List aE,kU ca (kE q) (ks.map kE)=(kU kk q ks).map kE
 |[]=>rfl
 |k::ks=>by
  show(if kLt (kk q) (kk k)then kE q::kE k::ks.map kE else kE k::kU ca (kE q) (ks.map kE))=_;rw[show kU kk q (k::ks)=if kLt (kk q) (kk k)then q::k::ks else k::kU kk q ks from rfl];split
  ·rfl
  ·rw[tZ q ks];rfl
theorem qt:∀ks:List aE,bN ca (ks.map kE)=(bN kk ks).map kE
 |[]=>rfl
 |k::ks=>by
  show kU ca (kE k) (bN ca (ks.map kE))=_;rw[qt ks,tZ];rfl
theorem uj{σ:a8}(h0:σ≠[]){ks:List aE}(nd:ks.Nodup)(hs:∀q∈ks,Sh σ (kk q))(hl:ks.length<1000):kM (ks.map kE)=some (.lst ((bN kk ks).map kE)):=by
 have hx:∀x∈ks.map kE,∃k,x=.tup k/\Sh σ k:=λx hx=>by
  obtain⟨p,hp,rfl⟩:=List.mem_map.mp hx;exact⟨_,rfl,hs p hp⟩
 have pw:(ks.map kE).Pairwise λx y=>ca x≠ca y:=by
  rw[Ku];exact nd.imp λ{a b} ne e=>ne (wN e)
 have a:Fj (ks.map kE):=⟨by rw[IZ];exact hl,σ,h0,hx,pw⟩
 unfold kM;rw[if_pos a,qt]
theorem pc(al:fO):encK al=(al.map (·.1)).map kE:=by rw[Kw];rfl
theorem oM(al:fO):oN (.non::encK al) (al.map (·.2))=some al:=cx al
theorem yY(al:fO):gf [bE al]=some (.lst ((al.map (·.1)).map kE)):=by
 show(oN (.non::encK al) (al.map (·.2))).bind _=_;rw[oM,<-pc];rfl
theorem wC(al:fO):sR (bE al)=some ((al.map (·.1)).map kE):=by
 show(dS (encK al) (al.map (·.2))).map _=_;rw[cx,<-pc];rfl
noncomputable def hs(al:fO)(q:aE):Bool:=al.any λp=>decide (p.1=q)
theorem Hs{al:fO}{q:aE}:hs al q=true↔q∈al.map (·.1):=by
 unfold hs;rw[List.any_eq_true,List.mem_map];simp only[decide_eq_true_eq]
theorem vn(al:fO)(q:aE):iI (kE q) (bE al)=some (.bl (!hs al q)):=by
 show(oN (.non::encK al) (al.map (·.2))).bind _=_;rw[oM];show(cy (kE q)).map _=_;rw[cR];rfl
noncomputable def gv(al:fO)(q:aE):D:=(eB al q).getD .non
theorem uh{fo fk:FX}{ρ:ak}{al:fO}{q:aE}(h:fo ρ=.ok (bE al))(e:fk ρ=.ok (kE q)):cJ fo fk ρ=.ok (gv al q):=by
 unfold cJ;rw[h];show(fk ρ).bind _=_;rw[e];show rO (y9 (.non::encK al) (al.map (·.2)) (kE q))=_;unfold y9;rw[oM];show rO ((cy (kE q)).map _)=_;rw[cR];rfl
theorem uq{σ:a8}{n:Nat}{al:fO}(h:Tb σ n al)(q:aE):Ok 3 (gv al q):=by
 unfold gv eB;cases e:al.find? λp=>decide (p.1=q)with
 |none=>exact DB _
 |some p=>exact(h.sh p (KW e)).2
noncomputable abbrev Cg:=List Key×D×D
noncomputable abbrev tr(c:Cg):D:=.tup [kE c.1,c.2.1,c.2.2]
noncomputable def eD(al bl:fO):List (aE):=al.map (·.1)++(bl.map (·.1)).filter λq=>!hs al q
noncomputable def chg(al bl:fO):List Cg:=((bN kk (eD al bl)).filter λq=>!pyEq (gv al q) (gv bl q)).map λq=>(q,gv al q,gv bl q)
theorem Ac{al bl:fO}(h1:(al.map (·.1)).Nodup)(h2:(bl.map (·.1)).Nodup):(eD al bl).Nodup:=
 List.nodup_append.mpr ⟨h1,h2.sublist KN,λa ha b hb e=>by
  have:=(List.mem_filter.mp hb).2
  rw[<-e,Hs.mpr ha]at this;cases this⟩
theorem zg{al bl:fO}{q:aE}(h:q∈eD al bl):q∈al.map (·.1)\/q∈bl.map (·.1):=by
 rcases List.mem_append.mp h with z|z
 ·exact .inl z
 ·exact .inr (List.mem_filter.mp z).1
theorem t4{σ:a8}{n:Nat}{al bl:fO}(h1:Tb σ n al)(h2:Tb σ n bl):∀q∈eD al bl,Sh σ (kk q):=λq hq=>by
 rcases zg hq with z|z
 ·obtain⟨p,hp,rfl⟩:=List.mem_map.mp z;exact(h1.sh p hp).1
 ·obtain⟨p,hp,rfl⟩:=List.mem_map.mp z;exact(h2.sh p hp).1
theorem pU{σ:a8}{n:Nat}{al bl:fO}(h1:Tb σ n al)(h2:Tb σ n bl):(eD al bl).length<=2*n:=by
 have l1:=h1.ln;have l2:=h2.ln
 have:((bl.map (·.1)).filter λq=>!hs al q).length<=bl.length:=by
  have:=KP (λq=>!hs al q) (bl.map (·.1))
  rw[IZ]at this;exact this
 unfold eD;rw[IY,IZ];omega
structure Ch(σ:a8)(n:Nat)(cs:List Cg):Prop where
 sh:∀c∈cs,Sh σ (kk c.1)/\Ok 3 c.2.1/\Ok 3 c.2.2
 ln:cs.length<=n
theorem pI{σ:a8}{n:Nat}{al bl:fO}(h1:Tb σ n al)(h2:Tb σ n bl):Ch σ (2*n) (chg al bl):=
 ⟨fun c hc=>by
  obtain⟨q,hq,rfl⟩:=List.mem_map.mp hc;exact⟨t4 h1 h2 q ((bo kk _).mem_iff.mp (List.mem_filter.mp hq).1),uq h1 q,uq h2 q⟩,by
  have:=pU h1 h2
  unfold chg;rw[IZ];refine Iy (KP _ _) ?_;rw[(bo kk _).length_eq];exact this⟩
theorem Ok.le{n m:Nat}(h:n<=m){d:D}(hd:Ok n d):Ok m d:=by
  induction m with
  | zero => have : n = 0 := by omega
            subst this;exact hd
  |succ m ih=>
    by_cases e:n=m+1
    ·subst e;exact hd
    ·exact(ih `o).up
theorem qK{α:Type}(p:α->Bool){xs:List α}{i:Nat}(hi:i<xs.length):(xs.take (i+1)).filter p=(xs.take i).filter p++(if p xs[i]then[xs[i]]else[]):=by
 rw[Kd hi,List.filter_append];congr 1;cases h:p xs[i]with
 |true=>rw[JX h];rfl
 |false=>rw[JY (by rw[h];exact II)];rfl
theorem lh{σ:a8}(h0:σ≠[]){al bl:fO}(h1:Tb σ 63 al)(h2:Tb σ 63 bl):bH aZ 2 4 [bE al,bE bl]=.ok (.tup ((chg al bl).map tr)):=by
 have kl:=pU h1 h2;have lc:∀x y:Option S,fW [none,some 0] (jl (aa 1)) (gN 0) (fB (f2 iI (aa 0) (aa 1))) (aa 0) [‹bE al›,‹bE bl›,x,y]=.ok (.lst (((bl.map (·.1)).filter λq=>!hs al q).map kE)):=λx y=>by
  refine ez (ds:=(bl.map (·.1)).map kE) ?_ (by rw[IZ,IZ];have:=h2.ln;omega) ?_
  ·unfold jl;show(rO (sR (bE bl)))=_;rw[wC];rfl
  ·refine fZ kE (λq=>!hs al q) kE _ λq hq=>⟨[‹kE q›,‹bE al›],rfl,?_,rfl⟩
   have:=vn al q
   generalize bE al=A at this ⊢;simp! only[this]
 have ad:=xV ((al.map (·.1)).map kE) (((bl.map (·.1)).filter λq=>!hs al q).map kE) (by rw[IZ,IZ,IZ];unfold eD at kl;rw[IY,IZ]at kl;omega);rw[<-JG,show al.map (·.1)++((bl.map (·.1)).filter λq=>!hs al q)=eD al bl from rfl]at ad;have so:dF [.lst ((eD al bl).map kE)]=some (.lst ((bN kk (eD al bl)).map kE)):=uj h0 (Ac h1.nd h2.nd) (t4 h1 h2) `o;have sl:(bN kk (eD al bl)).length=(eD al bl).length:=(bo kk _).length_eq;have lf':=yY al;obtain⟨B,hB⟩:∃F:bG,F=(aA (i7 (fB (f2 dY (cJ (aa 0) (aa 3)) (cJ (aa 1) (aa 3)))) (vx 2 ja (af (bJ (af (aa 3) (af (cJ (aa 0) (aa 3)) (af (cJ (aa 1) (aa 3)) ao)))) ao)) bj) (bI [3] bj)):=⟨_,rfl⟩
 have ml:eU []=some (.lst []):=nr rfl;have g1:=λ(x:Option S)(q:aE)=>uh (fo:=aa 0) (fk:=aa 3) (ρ:=[‹bE al›,‹bE bl›,x,‹kE q›]) (al:=al) (q:=q) rfl rfl;have g2:=λ(x:Option S)(q:aE)=>uh (fo:=aa 1) (fk:=aa 3) (ρ:=[‹bE al›,‹bE bl›,x,‹kE q›]) (al:=bl) (q:=q) rfl rfl;rw[lI];unfold aZ;rw[<-hB];generalize hA:bE al=A at lc g1 g2 lf' ⊢;generalize hC:bE bl=C at lc g1 g2 ⊢;simp! only[ml,lc,lf',ad,so];refine k8 (Q:=λx=>x=.ok (.tup ((chg al bl).map tr))) (λi ρ=>ρ=[‹A›,‹C›,some (.own (.lst (((((bN kk (eD al bl)).take i).filter λq=>!pyEq (gv al q) (gv bl q)).map λq=>(q,gv al q,gv bl q)).map tr))),none]) ?_ rfl ?_
 ·rintro i d ρ kk' hd rfl;have hi:=jR hd;rw[IZ]at hi;rw[IV]at hd;change Option.map kE (bN kk (eD al bl))[i]?=some d at hd;have hi:i<(bN kk (eD al bl)).length:=hi;rw[Jz hi]at hd;cases hd;generalize hq:(bN kk (eD al bl))[i]=q;refine⟨_,_,rfl,rfl,?_⟩;have ne:=p6 ((uq h1 q).le (show 3<=8 by decide)) ((uq h2 q).le (show 3<=8 by decide));have e3:((((bN kk (eD al bl)).take (i+1)).filter λq=>!pyEq (gv al q) (gv bl q)).map λq=>(q,gv al q,gv bl q)).map tr=((((bN kk (eD al bl)).take i).filter λq=>!pyEq (gv al q) (gv bl q)).map λq=>(q,gv al q,gv bl q)).map tr++(if !pyEq (gv al q) (gv bl q)then[.tup [kE q,gv al q,gv bl q]]else[]):=by
   rw[qK _ hi,hq,JG,JG];cases !pyEq (gv al q) (gv bl q)<;>rfl
  rw[e3];have ll:(((((bN kk (eD al bl)).take i).filter λq=>!pyEq (gv al q) (gv bl q)).map λq=>(q,gv al q,gv bl q)).map tr).length<=126:=by
   rw[IZ,IZ];refine Iy (KP _ _) ?_;rw[IQ];omega
  generalize ((((bN kk (eD al bl)).take i).filter λq=>!pyEq (gv al q) (gv bl q)).map λq=>(q,gv al q,gv bl q)).map tr=W at ll ⊢;rw[hB];cases e:!pyEq (gv al q) (gv bl q)with
  |false=>
   rw[e]at ne;simp! only[g1,g2,ne]
  |true=>
   rw[e]at ne;have mt:cS [kE q,gv al q,gv bl q]=some (.tup [kE q,gv al q,gv bl q]):=eF (by simp);have ap:=rQ (xs:=W) (y:=.tup [kE q,gv al q,gv bl q]) `o;have sm:=λK:Ks=>sN 2 ja (af (bJ (af (aa 3) (af (cJ (aa 0) (aa 3)) (af (cJ (aa 1) (aa 3)) ao)))) ao) K [‹A›,‹C›,some (.own (.lst W)),‹kE q›] (xs:=W) rfl;simp! only[g1,g2,ne,sm,mt,ap]
 ·rintro ρ' rfl;rw[IZ];rw[J5 (show(bN kk (eD al bl)).length<=_ from IJ _)];unfold chg;simp! only[]
noncomputable abbrev CL:=List Cg
noncomputable abbrev mp(g:aE->D×D->D)(al:CL):fO:=al.map λc=>(c.1,g c.1 c.2)
noncomputable def gQ(al:CL)(k:aE)(v:D×D):CL:=if(al.any λc=>decide (c.1=k))=true then al.map (λc=>if c.1=k then(c.1,v)else c)else al++[(k,v)]
noncomputable def gw(al:CL)(k:aE):Option (D×D):=(al.find? λc=>decide (c.1=k)).map (·.2)
theorem lX(g:aE->D×D->D)(al:CL)(k:aE)(v:D×D):cn (mp g al) k (g k v)=mp g (gQ al k v):=by
 unfold cn gQ;rw[show((mp g al).any λp=>decide (p.1=k))=al.any λc=>decide (c.1=k)from by rw[Kx];rfl];unfold mp;split
 ·rw[Kw,Kw];refine JF λc _=>?_;show(if c.1=k then(c.1,g k v)else(c.1,g c.1 c.2))=_;show _=((if c.1=k then(c.1,v)else c).1,g (if c.1=k then(c.1,v)else c).1 (if c.1=k then(c.1,v)else c).2)
  by_cases e:c.1=k
  ·rw[if_pos e,if_pos e,e]
  ·rw[if_neg e,if_neg e]
 ·rw[JG];rfl
theorem ly(g:aE->D×D->D):∀(al:CL)(k:aE),eB (mp g al) k=(gw al k).map (g k)
 |[],_=>rfl
 |c::al,k=>by
  unfold eB gw;rw[show mp g (c::al)=(c.1,g c.1 c.2)::mp g al from rfl];by_cases e:c.1=k
  ·rw[KG (by simpa using e),KG (by simpa using e)];show some (g c.1 c.2)=some (g k c.2);rw[e]
  ·rw[KH (by simpa using e),KH (by simpa using e)];exact ly g al k
structure Co(σ:a8)(n:Nat)(al:CL):Prop where
 sh:∀c∈al,Sh σ (kk c.1)/\Ok 3 c.2.1/\Ok 3 c.2.2
 nd:(al.map (·.1)).Nodup
 ln:al.length<=n
theorem oG(g:aE->D×D->D)(al:CL):(mp g al).map (·.1)=al.map (·.1):=by rw[Kw];rfl
theorem xC{al:CL}{k:aE}{v:D×D}{c:Cg}(h:c∈gQ al k v):c∈al\/c=(k,v):=by
 unfold gQ at h;split at h
 ·obtain⟨a,ha,e⟩:=List.mem_map.mp h;by_cases z:a.1=k
  ·rw[if_pos z]at e;exact .inr (by rw[<-e,z])
  ·rw[if_neg z]at e;exact .inl (by rw[<-e];exact ha)
 ·rcases List.mem_append.mp h with z|z
  ·exact .inl z
  ·exact .inr (List.mem_singleton.mp z)
theorem Co.put{σ:a8}{n:Nat}{al:CL}(h:Co σ n al){k:aE}{v:D×D}(hk:Sh σ (kk k))(h1:Ok 3 v.1)(h2:Ok 3 v.2):Co σ (n+1) (gQ al k v):=by
 have e:=lX (λ_ _=>.non) al k v;refine⟨λc hc=>?_,?_,?_⟩
 ·rcases xC hc with z|z
  ·exact h.sh c z
  ·rw[z];exact⟨hk,h1,h2⟩
 ·rw[<-oG (λ_ _=>.non),<-e];exact um _ _ (by rw[oG];exact h.nd)
 ·have:=qJ (mp (λ_ _=>.non) al) k .non
  have e2:=congrArg List.length e;rw[IZ]at this;rw[IZ]at e2;rw[<-e2]
  have:=h.ln
  omega
noncomputable def ini(fs:CL):CL:=fs.foldl (λal c=>gQ al c.1 c.2) []
noncomputable def er(al:CL)(c:Cg):D×D:=(gw al c.1).getD (c.2.1,c.2.1)
noncomputable def bad(al:CL)(c:Cg):Bool:=!pyEq (er al c).2 c.2.1
noncomputable def stp(al:CL)(c:Cg):CL:=gQ al c.1 ((er al c).1,c.2.2)
noncomputable def sts:CL->CL->List (aE)
 |_,[]=>[]
 |al,c::cs=>(if bad al c then[c.1]else[])++sts (stp al c) cs
noncomputable def run:CL->CL->aE ⊕ CL
 |al,[]=>.inr al
 |al,c::cs=>if bad al c then .inl c.1 else run (stp al c) cs
theorem yu:∀(cs al:CL),run al cs=match sts al cs with
  |k::_=>.inl k
  |[]=>.inr (cs.foldl stp al)
 |[],al=>rfl
 |c::cs,al=>by
  show(if bad al c then Sum.inl c.1 else run (stp al c) cs)=_;unfold sts;cases bad al c with
  |true=>rfl
  |false=>exact yu cs (stp al c)
theorem xR{σ:a8}{n:Nat}{al:CL}(h:Co σ n al){c:Cg}(hc:Ok 3 c.2.1):Ok 3 (er al c).1/\Ok 3 (er al c).2:=by
 unfold er gw;cases e:al.find? λx=>decide (x.1=c.1)with
 |none=>exact⟨hc,hc⟩
 |some p=>exact(h.sh p (KW e)).2
theorem Co.stp{σ:a8}{n:Nat}{al:CL}(h:Co σ n al){c:Cg}(hc:Sh σ (kk c.1)/\Ok 3 c.2.1/\Ok 3 c.2.2):Co σ (n+1) (stp al c):=h.put hc.1 (xR h hc.2.1).1 hc.2.2
noncomputable def ds(al:CL):CL:=(bN kk (al.map (·.1))).map λq=>(q,(gw al q).getD (.non,.non))
noncomputable def out(al:CL):CL:=(ds al).filter λc=>!pyEq c.2.1 c.2.2
theorem pH:∀{al:CL}{q:aE},q∈al.map (·.1)->∃v,gw al q=some v
 |c::al,q,h=>by
  unfold gw;by_cases e:c.1=q
  ·rw[KG (by simpa using e)];exact⟨_,rfl⟩
  ·rw[KH (by simpa using e)];rcases List.mem_cons.mp h with z|z
   ·exact absurd z.symm e
   ·exact pH z
theorem zR{σ:a8}{n:Nat}{al:CL}(h:Co σ n al){q:aE}{v:D×D}(e:gw al q=some v):Ok 3 v.1/\Ok 3 v.2:=by
 unfold gw at e;obtain⟨p,hp,rfl⟩:=Option.map_eq_some_iff.mp e;exact(h.sh p (KW hp)).2
theorem uc{fo fk fx:FX}{ρ:ak}{al:fO}{q:aE}{x:D}(h:fo ρ=.ok (az al))(e:fk ρ=.ok (kE q))(ex:fx ρ=.ok x):cU fo fk fx ρ=.ok ((eB al q).getD x):=by
 unfold cU;rw[h];show(fk ρ).bind _=_;rw[e];show(fx ρ).bind _=_;rw[ex];show rO (qM (encK al) (al.map (·.2)) (kE q) x)=_;unfold qM;rw[cx];show rO ((cy (kE q)).bind _)=_;rw[cR];rfl
theorem xK{f:FX}{a b:Option S}{d:D}{r:ak}{v:D}(h:f (a::b::‹d›::r)=.ok v)(l:lf v=true):eW [2] f (a::b::some (.own d)::r)=.ok v:=by
 show(pM (f (a::b::‹d›::r))).bind _=_;rw[h];show(if lf v then Except.ok v else un)=_;rw[l];rfl
theorem sK(c:Str)(fs:ay)(f:aN)(k:Ks)(ρ:ak):g8 c fs f k ρ=kS (f ρ) k ρ λds=>if small ds.length&&ds.length==fs.length then k.ex ⟨c,fs,ds⟩ ρ else un:=nr rfl
theorem sW(cs:ay)(i:Nat)(F Fh:bG)(k:Ks)(ρ:ak):xW cs i F Fh k ρ=F {k with ex:=λx ρ1=>if cs.contains x.c=true then Fh (EH i k) (setV i (.exc x.c x.fs x.vs) ρ1)else un} ρ:=nr rfl
noncomputable abbrev gW(k:aE)(v:D×D):D:=.tup [kE k,v.1,v.2]
noncomputable abbrev gE(_:aE)(v:D×D):D:=.tup [v.1,v.2]
theorem DE(al:CL)(c:Cg):(eB (mp gW al) c.1).getD (.tup [kE c.1,c.2.1,c.2.1])=.tup [kE c.1,(er al c).1,(er al c).2]:=by
 rw[ly];unfold er;cases gw al c.1<;>rfl
theorem p8:∀ps:fO,fX (ps.map λp=>.tup [.tup (p.1.map aJ),p.2])=some ps
 |[]=>rfl
 |p::ps=>by
  show(qf (.tup [.tup (p.1.map aJ),p.2])).bind (λq=>(fX (ps.map λp=>.tup [.tup (p.1.map aJ),p.2])).map (q::·))=_;rw[p8 ps];show((cy (.tup (p.1.map aJ))).map λk=>(k,p.2)).bind _=_;rw[cR];rfl
theorem ur(g:aE->D×D->D):∀(f a:CL),(mp g f).foldl (λal p=>cn al p.1 p.2) (mp g a)=mp g (f.foldl (λal c=>gQ al c.1 c.2) a)
 |[],_=>rfl
 |c::f,a=>by
  show(mp g f).foldl (λal p=>cn al p.1 p.2) (cn (mp g a) c.1 (g c.1 c.2))=mp g (f.foldl (λal c=>gQ al c.1 c.2) (gQ a c.1 c.2));rw[lX];exact ur g f _
theorem Co.ini{σ:a8}:∀(f a:CL)(n:Nat),(∀c∈f,Sh σ (kk c.1)/\Ok 3 c.2.1/\Ok 3 c.2.2)->Co σ n a->Co σ (n+f.length) (f.foldl (λal c=>gQ al c.1 c.2) a)
 |[],_,_,_,h=>h
 |c::f,a,n,hf,h=>by
  have hc:=hf c IB
  have:=Co.ini f (gQ a c.1 c.2) (n+1) (λc hc=>hf c (IC _ hc)) (h.put hc.1 hc.2.1 hc.2.2)
  rw[show n+(c::f).length=n+1+f.length by rw[Jl];omega];exact this
theorem rN{σ:a8}{n:Nat}{f:CL}(h:Ch σ n f):Co σ n (ini f):=by
 have:=Co.ini f [] 0 h.sh ⟨λc hc=>(nomatch hc),Jr,IJ _⟩
 exact⟨this.sh,this.nd,Iy this.ln (by have:=h.ln;omega)⟩
theorem Gw{k:aE}{a b:D}(ha:Ok 3 a)(hb:Ok 3 b):Ok 4 (.tup [kE k,a,b]):=i6 λx hx=>by
 rcases List.mem_cons.mp hx with z|hx
 ·rw[z];exact sC _ _
 ·rcases List.mem_cons.mp hx with z|hx
  ·rw[z];exact ha
  ·rw[List.mem_singleton.mp hx];exact hb
noncomputable abbrev jB:bG:=(aA (bF 6 (eW [2] (cU (aa 2) (aa 3) (bJ (af (aa 3) (af (aa 4) (af (aa 4) ao))))))) (aA (i7 (fB (f2 dY (f2 aR (aa 6) (fC (.int 2))) (aa 4))) (g8 "Stale" ["key"] (af (aa 3) ao)) bj) (aA (eh 2 (aa 3) (bJ (af (aa 3) (af (f2 aR (aa 6) (fC (.int 1))) (af (aa 5) ao))))) (bI [4,5,6] bj))))
theorem DA{σ:a8}(x1:Option S)(K:Ks)(hK:∀x ρ,K.ex x ρ=.error (some x))(Q:R D->Prop):∀(s al:CL)(n:Nat)(x3:Option S),Co σ n al->(∀c∈s,Sh σ (kk c.1)/\Ok 3 c.2.1/\Ok 3 c.2.2)->n+s.length<=900->
  (∀k,run al s=.inl k->Q (.error (some ⟨"Stale",["key"],[kE k]⟩)))->(∀al' x3,Co σ (n+s.length) al'->run al s=.inr al'->Q (K.nx [none,x1,some (.own (az (mp gW al'))),x3,none,none,none]))->
  Q (dg (gT 3 (kc [3,4,5])) jB K (s.map tr) [none,x1,some (.own (az (mp gW al))),x3,none,none,none]):=by
 intro s
 induction s with
 |nil=>intro al n x3 h _ _ _ h2;exact h2 al x3 h rfl
 |cons c s ih=>
  intro al n x3 h hs hl h1 h2;have hc:=hs c IB;obtain⟨e1,e2⟩:=xR h hc.2.1;rw[Jg,yL];have gt:gT 3 (kc [3,4,5]) (tr c) [none,x1,some (.own (az (mp gW al))),x3,none,none,none]=some [none,x1,some (.own (az (mp gW al))),‹kE c.1›,‹c.2.1›,‹c.2.2›,none]:=rfl;rw[gt,cA,cO];have Gi:cS [kE c.1,c.2.1,c.2.1]=some (.tup [kE c.1,c.2.1,c.2.1]):=eF (by simp);have Ei:cS [kE c.1,(er al c).1,c.2.2]=some (.tup [kE c.1,(er al c).1,c.2.2]):=eF (by simp);have pk:eW [2] (cU (aa 2) (aa 3) (bJ (af (aa 3) (af (aa 4) (af (aa 4) ao))))) [none,x1,some (.own (az (mp gW al))),‹kE c.1›,‹c.2.1›,‹c.2.2›,none]=.ok (.tup [kE c.1,(er al c).1,(er al c).2]):=by
   refine xK ?_ (Gw e1 e2).2.1;rw[<-DE];exact uc rfl rfl (by simp! only[Gi])
  have ne:dY (er al c).2 c.2.1=some (.bl (bad al c)):=p6 (e2.le (by decide)) (hc.2.1.le (by decide));have pu:=λ(K:Ks)=>pz (i:=2) (fk:=aa 3) (fv:=bJ (af (aa 3) (af (f2 aR (aa 6) (fC (.int 1))) (af (aa 5) ao)))) (k:=K) (ρ:=[none,x1,some (.own (az (mp gW al))),‹kE c.1›,‹c.2.1›,‹c.2.2›,‹.tup [kE c.1,(er al c).1,(er al c).2]›]) (al:=mp gW al) (q:=c.1) (v:=.tup [kE c.1,(er al c).1,c.2.2]) rfl rfl (by simp! only[Ei]) (by rw[IZ];have:=h.ln;omega);have pm:=lX gW al c.1 ((er al c).1,c.2.2);rw[show cn (mp gW al) c.1 (.tup [kE c.1,(er al c).1,c.2.2])=mp gW (stp al c)from pm]at pu;have i2:=ih (stp al c) (n+1) (‹kE c.1›) (h.stp hc) (λc hc=>hs c (IC _ hc)) (by rw[Jl]at hl;omega);have sb:(small 1&&(1==1))=true:=rfl;generalize az (mp gW al)=W at pk pu;generalize hW:az (mp gW (stp al c))=W2 at pu i2;cases eb:bad al c with
  |true=>
   rw[eb]at ne
   have:=h1 c.1 (by show(if bad al c then Sum.inl c.1 else run (stp al c) s)=_;rw[eb];rfl)
   unfold jB;simp! only[pk,ne,sK,sb,hK];exact this
  |false=>
   rw[eb]at ne;have er':run al (c::s)=run (stp al c) s:=by show(if bad al c then Sum.inl c.1 else run (stp al c) s)=_;rw[eb];rfl
   have:=i2 (λk hk=>h1 k (er'.trans hk)) λal' x3 co hr=>h2 al' x3 (by rw[Jl,show n+(s.length+1)=n+1+s.length by omega];exact co) (er'.trans hr)
   unfold jB at this ⊢;simp! only[pk,ne,pu];exact this
theorem v4{n:Nat}(xs:CL)(h:∀c∈xs,Ok 3 c.2.1/\Ok 3 c.2.2)(hl:xs.length<=900)(X:D)(hX:X=.lst (xs.map tr)\/X=.tup (xs.map tr)):bH gz 1 1 [X]=.ok (.tup ((xs.filter λc=>!pyEq c.2.1 c.2.2).map tr)):=by
 have lc:fW [none] (bq (aa 0)) (gN 0) (fB (f2 dY (f2 aR (aa 0) (fC (.int 1))) (f2 aR (aa 0) (fC (.int 2))))) (aa 0) [‹X›]=.ok (.lst ((xs.filter λc=>!pyEq c.2.1 c.2.2).map tr)):=by
  refine ez (ds:=xs.map tr) ?_ (by rw[IZ];omega) ?_
  ·rcases hX with e|e<;>rw[e]<;>simp! only[]
  ·refine fZ tr (λc=>!pyEq c.2.1 c.2.2) tr xs λc hc=>⟨[‹tr c›],rfl,?_,rfl⟩
   have ne:=p6 ((h c hc).1.le (show 3<=8 by decide)) ((h c hc).2.le (show 3<=8 by decide));simp! only[ne]
 rw[sv];unfold gz;simp! only[lc]
theorem zj{σ:a8}{n:Nat}{al:CL}(h:Co σ n al):∀c∈ds al,Ok 3 c.2.1/\Ok 3 c.2.2:=λc hc=>by
 obtain⟨q,hq,rfl⟩:=List.mem_map.mp hc;have hq:=(bo kk _).mem_iff.mp hq;obtain⟨v,hv⟩:=pH hq
 have:=zR h hv
 show Ok 3 ((gw al q).getD (.non,.non)).1/\Ok 3 ((gw al q).getD (.non,.non)).2;rw[hv];exact this
theorem wR(al:CL):(ds al).length=al.length:=by
 unfold ds;rw[IZ,(bo kk _).length_eq,IZ]
theorem wI(g:aE->D×D->D){al:CL}{q:aE}(h:q∈al.map (·.1)):dh (az (mp g al)) (kE q)=some (g q ((gw al q).getD (.non,.non))):=by
 obtain⟨v,hv⟩:=pH h;rw[yw,ly,hv];rfl
theorem ui{σ:a8}{n:Nat}{al:CL}(h0:σ≠[])(h:Co σ n al)(hl:n<=900)(g:aE->D×D->D):kM (encK (mp g al))=some (.lst ((bN kk (al.map (·.1))).map kE)):=by
 rw[pc,oG];refine uj h0 h.nd (λq hq=>?_) (by rw[IZ];have:=h.ln;omega);obtain⟨c,hc,rfl⟩:=List.mem_map.mp hq;exact(h.sh c hc).1
noncomputable def jn(f s:CL):R D:=match run (ini f) s with
 |.inl k=>.error (some ⟨"Stale",["key"],[kE k]⟩)
 |.inr al=>.ok (.tup ((out al).map tr))
theorem vj{σ:a8}(h0:σ≠[]){f s:CL}(hf:Ch σ 200 f)(hs:Ch σ 200 s):bH gB 2 7 [.tup (f.map tr),.tup (s.map tr)]=jn f s:=by
 have lc:∀a1 a2 a3 a4 a5 a6:Option S,fW [none] (bq (aa 0)) (gN 0) b9 (bJ (af (f2 aR (aa 0) (fC (.int 0))) (af (aa 0) ao))) [‹.tup (f.map tr)›,a1,a2,a3,a4,a5,a6]=.ok (.lst ((mp gW f).map λp=>.tup [.tup (p.1.map aJ),p.2])):=λ_ _ _ _ _ _=>by
  refine ez (ds:=f.map tr) (by simp! only[]) (by rw[IZ];have:=hf.ln;omega) ?_;rw[Kw];refine pA tr _ f λc hc=>⟨[‹tr c›],rfl,rfl,?_⟩
  have mt:cS [kE c.1,tr c]=some (.tup [kE c.1,tr c]):=eF (by simp);simp! only[mt];rfl
 have dt:gY [.lst ((mp gW f).map λp=>.tup [.tup (p.1.map aJ),p.2])]=some (az (mp gW (ini f))):=by
  show(fX _).bind _=_;rw[p8];show(if small (mp gW f).length then some (az (nO (mp gW f)))else none)=_;rw[bY (by rw[IZ];have:=hf.ln;omega),if_pos rfl]
  have:nO (mp gW f)=mp gW (ini f):=ur gW f []
  rw[this]
 have co:=rN hf;rw[lI];unfold gB;rw[show(aA (bF 6 (eW [2] (cU (aa 2) (aa 3) (bJ (af (aa 3) (af (aa 4) (af (aa 4) ao))))))) (aA (i7 (fB (f2 dY (f2 aR (aa 6) (fC (.int 2))) (aa 4))) (g8 "Stale" ["key"] (af (aa 3) ao)) bj) (aA (eh 2 (aa 3) (bJ (af (aa 3) (af (f2 aR (aa 6) (fC (.int 1))) (af (aa 5) ao))))) (bI [4,5,6] bj))))=jB from rfl];generalize hJ:jB=J;generalize hW:az (mp gW (ini f))=W at dt;simp! only[lc,dt];rw[<-hJ,<-hW];refine DA (σ:=σ) _ _ (λ_ _=>rfl) (λx=>x=jn f s) s (ini f) 200 none co hs.sh (by have:=hs.ln;omega) (λk hk=>?_) λal x3 co' hk=>?_
 ·unfold jn;rw[hk]
 ·have ln:=hs.ln;have e1:jn f s=.ok (.tup ((out al).map tr)):=by unfold jn;rw[hk]
  rw[e1];have so:eK [az (mp gW al)]=some (.lst ((bN kk (al.map (·.1))).map kE)):=by
   show(oN (encK (mp gW al)) ((mp gW al).map (·.2))).bind _=_;rw[oQ];exact ui h0 co' `o gW
  have lc2:∀a0 a1 a3 a4 a5 a6:Option S,fW [none,some 2] (bq (fL eK (af (aa 2) ao))) (gN 0) b9 (f2 dh (aa 1) (aa 0)) [a0,a1,‹az (mp gW al)›,a3,a4,a5,a6]=.ok (.lst ((ds al).map tr)):=λ_ _ _ _ _ _=>by
   refine ez (ds:=(bN kk (al.map (·.1))).map kE) ?_ (by rw[IZ,(bo kk _).length_eq,IZ];have:=co'.ln;omega) ?_
   ·generalize az (mp gW al)=Y at so ⊢;simp! only[so]
   ·unfold ds;rw[Kw];refine pA kE _ _ λq hq=>⟨[‹kE q›,‹az (mp gW al)›],rfl,rfl,?_⟩
    have dx:=wI gW (al:=al) ((bo kk _).mem_iff.mp hq);generalize az (mp gW al)=Y at dx ⊢;simp! only[dx];rfl
  have un:=v4 (n:=0) (ds al) (zj co') (by rw[wR];have:=co'.ln;omega) _ (.inl rfl);generalize az (mp gW al)=Y at lc2 ⊢;simp! only[lc2,un];rfl
theorem Cu(al:fO)(q:aE):lY (kE q) (az al)=some (.bl (hs al q)):=by
 show mx (encK al) (al.map (·.2)) (kE q)=_;unfold mx;rw[cx];show(cy (kE q)).bind _=_;rw[cR];rfl
theorem Ft(g:aE->D×D->D)(al:CL)(q:aE):hs (mp g al) q=(gw al q).isSome:=by
 induction al with
 |nil=>rfl
 |cons c al ih=>
  unfold hs gw;rw[show mp g (c::al)=(c.1,g c.1 c.2)::mp g al from rfl,Jk];by_cases e:c.1=q
  ·rw[decide_eq_true e,KG (by simpa using e)];rfl
  ·rw[decide_eq_false e,KH (by simpa using e),Bool.false_or];exact ih
theorem tP{w:List D}(h:pL w=true):dY (.lst w) (.lst [])=some (.bl (!w.isEmpty)):=by
 have e:dY (.lst w) (.lst [])=if(pl (.lst w)&&pl (.lst []))&&(bz 8 (.lst w)||bz 8 (.lst []))then some (.bl (!pyEq (.lst w) (.lst [])))else none:=rfl
 have d:bz 8 (.lst [])=true:=rfl;have p:pl (.lst ([]:List D))=true:=rfl;rw[e,b8,h,d,p,Kz,JB,JB,if_pos rfl];cases w with
 |nil=>rw[pyEq];rfl
 |cons a w=>rw[pyEq];rfl
noncomputable abbrev F4:bG:=aA (eh 2 (aa 3) (bJ (af (aa 4) (af (aa 5) ao)))) (bI [3,4,5] bj)
theorem AJ{σ:a8}(x0 x1:Option S)(K:Ks)(Q:R D->Prop):∀(f a:CL)(n:Nat),Co σ n a->(∀c∈f,Sh σ (kk c.1)/\Ok 3 c.2.1/\Ok 3 c.2.2)->n+f.length<=900->
  Q (K.nx [x0,x1,some (.own (az (mp gE (f.foldl (λal c=>gQ al c.1 c.2) a)))),none,none,none,none,none])->Q (dg (gT 3 (kc [3,4,5])) F4 K (f.map tr) [x0,x1,some (.own (az (mp gE a))),none,none,none,none,none]):=by
 intro f
 induction f with
 |nil=>intro a n _ _ _ h;exact h
 |cons c f ih=>
  intro a n h hs hl h2;have hc:=hs c IB;have i2:=ih (gQ a c.1 c.2) (n+1) (h.put hc.1 hc.2.1 hc.2.2) (λc hc=>hs c (IC _ hc)) (by rw[Jl]at hl;omega) h2;rw[Jg,yL];have gt:gT 3 (kc [3,4,5]) (tr c) [x0,x1,some (.own (az (mp gE a))),none,none,none,none,none]=some [x0,x1,some (.own (az (mp gE a))),‹kE c.1›,‹c.2.1›,‹c.2.2›,none,none]:=rfl;rw[gt,cA,cO];have Ei:cS [c.2.1,c.2.2]=some (.tup [c.2.1,c.2.2]):=eF (by simp);have pu:=λ(K:Ks)=>pz (i:=2) (fk:=aa 3) (fv:=bJ (af (aa 4) (af (aa 5) ao))) (k:=K) (ρ:=[x0,x1,some (.own (az (mp gE a))),‹kE c.1›,‹c.2.1›,‹c.2.2›,none,none]) (al:=mp gE a) (q:=c.1) (v:=.tup [c.2.1,c.2.2]) rfl rfl (by simp! only[Ei]) (by rw[IZ];have:=h.ln;omega);rw[show cn (mp gE a) c.1 (.tup [c.2.1,c.2.2])=mp gE (gQ a c.1 c.2)from lX gE a c.1 c.2]at pu;generalize az (mp gE a)=W at pu;generalize az (mp gE (gQ a c.1 c.2))=W2 at pu i2;unfold F4 at i2 ⊢;simp! only[pu];exact i2
noncomputable abbrev Ek:bG:=(aA (i7 (i9 [2] (pp (fB (f2 lY (aa 3) (aa 2))) (fB (f2 dY (f2 aR (f2 dh (aa 2) (aa 3)) (fC (.int 1))) (aa 4))))) (vx 6 ja (af (aa 3) ao)) bj) (aA (eh 2 (aa 3) (eW [2] (bJ (af (f2 aR (cU (aa 2) (aa 3) (bJ (af (aa 4) (af (aa 5) ao)))) (fC (.int 0))) (af (aa 5) ao))))) (bI [3,4,5] bj)))
theorem Aj{σ:a8}(x1:Option S)(K:Ks)(Q:R D->Prop):∀(s al:CL)(st:List aE)(n:Nat),Co σ n al->(∀c∈s,Sh σ (kk c.1)/\Ok 3 c.2.1/\Ok 3 c.2.2)->n+s.length<=900->st.length+s.length<=900->
  (Co σ (n+s.length) (s.foldl stp al)->Q (K.nx [none,x1,some (.own (az (mp gE (s.foldl stp al)))),none,none,none,some (.own (.lst ((st++sts al s).map kE))),none]))->Q (dg (gT 3 (kc [3,4,5])) Ek K (s.map tr) [none,x1,some (.own (az (mp gE al))),none,none,none,some (.own (.lst (st.map kE))),none]):=by
 intro s
 induction s with
 |nil=>intro al st n h _ _ _ h2;have:=h2 h;rw[show sts al []=[]from rfl,IM]at this;exact this
 |cons c s ih=>
  intro al st n h hs hl hl2 h2;have hc:=hs c IB;obtain⟨e1,e2⟩:=xR h hc.2.1;rw[Jl]at hl hl2;rw[Jg,yL];have gt:gT 3 (kc [3,4,5]) (tr c) [none,x1,some (.own (az (mp gE al))),none,none,none,some (.own (.lst (st.map kE))),none]=some [none,x1,some (.own (az (mp gE al))),‹kE c.1›,‹c.2.1›,‹c.2.2›,some (.own (.lst (st.map kE))),none]:=rfl;rw[gt,cA,cO];have Gi:cS [c.2.1,c.2.2]=some (.tup [c.2.1,c.2.2]):=eF (by simp);have Ei:cS [(er al c).1,c.2.2]=some (.tup [(er al c).1,c.2.2]):=eF (by simp);have ct:∀y:Option S,i9 [2] (pp (fB (f2 lY (aa 3) (aa 2))) (fB (f2 dY (f2 aR (f2 dh (aa 2) (aa 3)) (fC (.int 1))) (aa 4)))) [none,x1,some (.own (az (mp gE al))),‹kE c.1›,‹c.2.1›,‹c.2.2›,y,none]=.ok (bad al c):=λy=>by
   show pM ((pp (fB (f2 lY (aa 3) (aa 2))) (fB (f2 dY (f2 aR (f2 dh (aa 2) (aa 3)) (fC (.int 1))) (aa 4)))) [none,x1,‹az (mp gE al)›,‹kE c.1›,‹c.2.1›,‹c.2.2›,y,none])=_;have iT:=Cu (mp gE al) c.1;rw[Ft]at iT;have dx:=yw (mp gE al) c.1;rw[ly]at dx;cases eg:gw al c.1 with
   |none=>
    rw[eg]at iT
    have:bad al c=false:=(by unfold bad er;rw[eg];show(!pyEq c.2.1 c.2.1)=false;rw[dN];rfl);rw[this];generalize az (mp gE al)=W at iT dx ⊢;have iT:lY (kE c.1) W=some (.bl false):=iT;simp! only[iT]
   |some v=>
    rw[eg]at iT dx;have be:er al c=v:=(by unfold er;rw[eg];rfl);have ne:dY v.2 c.2.1=some (.bl (bad al c)):=(by unfold bad;rw[be]at e2 ⊢;exact p6 (e2.le (by decide)) (hc.2.1.le (by decide)));generalize az (mp gE al)=W at iT dx ⊢;have iT:lY (kE c.1) W=some (.bl true):=iT;have dx:dh W (kE c.1)=some (.tup [v.1,v.2]):=dx;simp! only[iT,dx,ne]
  have pv:∀y:Option S,eW [2] (bJ (af (f2 aR (cU (aa 2) (aa 3) (bJ (af (aa 4) (af (aa 5) ao)))) (fC (.int 0))) (af (aa 5) ao))) [none,x1,some (.own (az (mp gE al))),‹kE c.1›,‹c.2.1›,‹c.2.2›,y,none]=.ok (.tup [(er al c).1,c.2.2]):=λy=>by
   refine xK ?_ (i6 (n:=3) λx hx=>?_).2.1
   ·have g2:=uc (fo:=aa 2) (fk:=aa 3) (fx:=bJ (af (aa 4) (af (aa 5) ao))) (ρ:=[none,x1,‹az (mp gE al)›,‹kE c.1›,‹c.2.1›,‹c.2.2›,y,none]) (al:=mp gE al) (q:=c.1) (x:=.tup [c.2.1,c.2.2]) rfl rfl (by simp! only[Gi]);have eg:∃z,(eB (mp gE al) c.1).getD (.tup [c.2.1,c.2.2])=.tup [(er al c).1,z]:=by
     rw[ly];unfold er;cases gw al c.1 with
     |none=>exact⟨_,rfl⟩
     |some v=>exact⟨_,rfl⟩
    obtain⟨z,eg⟩:=eg;rw[eg]at g2;generalize az (mp gE al)=W at g2 ⊢;simp! only[g2,Ei]
   ·rcases List.mem_cons.mp hx with z|hx
    ·rw[z];exact e1
    ·rw[List.mem_singleton.mp hx];exact hc.2.2
  have pu:=λ(y:Option S)(K:Ks)=>pz (i:=2) (fk:=aa 3) (fv:=eW [2] (bJ (af (f2 aR (cU (aa 2) (aa 3) (bJ (af (aa 4) (af (aa 5) ao)))) (fC (.int 0))) (af (aa 5) ao)))) (k:=K) (ρ:=[none,x1,some (.own (az (mp gE al))),‹kE c.1›,‹c.2.1›,‹c.2.2›,y,none]) (al:=mp gE al) (q:=c.1) (v:=.tup [(er al c).1,c.2.2]) rfl rfl (pv y) (by rw[IZ];have:=h.ln;omega);rw[show cn (mp gE al) c.1 (.tup [(er al c).1,c.2.2])=mp gE (stp al c)from lX gE al c.1 ((er al c).1,c.2.2)]at pu;have i2:=ih (stp al c) (st++(if bad al c then[c.1]else[])) (n+1) (h.stp hc) (λc hc=>hs c (IC _ hc)) `o (by rw[IY];split<;>simp<;>omega) λco=>by
   have:=h2 (by rw[Jl,show n+(s.length+1)=n+1+s.length by omega];exact co)
   rw[show sts al (c::s)=(if bad al c then[c.1]else[])++sts (stp al c) s from rfl,<-JQ]at this;exact this
  generalize az (mp gE al)=W at ct pu;generalize az (mp gE (stp al c))=W2 at pu i2;cases eb:bad al c with
  |true=>
   rw[eb]at ct i2;rw[if_pos rfl,JG]at i2;have ap:=rQ (xs:=st.map kE) (y:=kE c.1) (by rw[IZ];omega);have sm:=λK:Ks=>sN 6 ja (af (aa 3) ao) K [none,x1,some (.own W),‹kE c.1›,‹c.2.1›,‹c.2.2›,some (.own (.lst (st.map kE))),none] (xs:=st.map kE) rfl;have i2:Q (dg (gT 3 (kc [3,4,5])) Ek K (s.map tr) [none,x1,some (.own W2),none,none,none,some (.own (.lst (st.map kE++[kE c.1]))),none]):=i2;generalize st.map kE=Y at ap sm i2;unfold Ek at i2 ⊢;simp! only[ct,sm,ap,pu];exact i2
  |false=>
   rw[eb]at ct i2;rw[if_neg II,IM]at i2;generalize st.map kE=Y at i2;unfold Ek at i2 ⊢;simp! only[ct,pu];exact i2
noncomputable def du(f s:CL):D:=match sts (ini f) s with
 |k::_=>.lst [kE k]
 |[]=>.tup ((out (s.foldl stp (ini f))).map tr)
noncomputable abbrev F5:bG:=(aA (i7 (fB (f2 dY (f2 aR (f2 dh (aa 2) (aa 3)) (fC (.int 0))) (f2 aR (f2 dh (aa 2) (aa 3)) (fC (.int 1))))) (vx 7 ja (af (bJ (af (aa 3) (af (f2 aR (f2 dh (aa 2) (aa 3)) (fC (.int 0))) (af (f2 aR (f2 dh (aa 2) (aa 3)) (fC (.int 1))) ao)))) ao)) bj) (bI [3] bj))
theorem Ad(al:CL):(bN kk (al.map (·.1))).map kE=(ds al).map λc=>kE c.1:=by unfold ds;rw[Kw];rfl
theorem Bs{σ:a8}{n:Nat}{al:CL}(h:Co σ n al)(hn:n<=900)(K:Ks)(Q:R D->Prop)(h2:Q (K.nx [none,none,‹az (mp gE al)›,none,none,none,none,some (.own (.lst ((out al).map tr)))])):Q (dg (gN 3) F5 K ((ds al).map λc=>kE c.1) [none,none,‹az (mp gE al)›,none,none,none,none,some (.own (.lst []))]):=by
 have dl:=wR al;have al':=h.ln;refine k8 (Q:=Q) (λi ρ=>ρ=[none,none,‹az (mp gE al)›,none,none,none,none,some (.own (.lst ((((ds al).take i).filter λc=>!pyEq c.2.1 c.2.2).map tr)))]) ?_ rfl ?_
 ·rintro i d ρ kk' hd rfl;have hi:=jR hd;rw[IZ]at hi;rw[IV,Jz hi]at hd;cases hd;have hm:=JZ hi;have ok:=zj h _ hm;have e3:(((ds al).take (i+1)).filter λc=>!pyEq c.2.1 c.2.2).map tr=(((ds al).take i).filter λc=>!pyEq c.2.1 c.2.2).map tr++(if !pyEq (ds al)[i].2.1 (ds al)[i].2.2 then[tr (ds al)[i]]else[]):=by
   rw[qK _ hi,JG];cases !pyEq (ds al)[i].2.1 (ds al)[i].2.2<;>rfl
  have ll:((((ds al).take i).filter λc=>!pyEq c.2.1 c.2.2).map tr).length<=900:=by
   rw[IZ];refine Iy (KP _ _) ?_;rw[IQ];omega
  have dx:dh (az (mp gE al)) (kE (ds al)[i].1)=some (.tup [(ds al)[i].2.1,(ds al)[i].2.2]):=by
   obtain⟨q,hq,e⟩:=List.mem_map.mp hm;rw[<-e];exact wI gE ((bo kk _).mem_iff.mp hq)
  refine⟨_,_,rfl,rfl,?_⟩;rw[e3];generalize (((ds al).take i).filter λc=>!pyEq c.2.1 c.2.2).map tr=W at ll ⊢;generalize (ds al)[i]=c at ok dx ⊢;have ne:=p6 (ok.1.le (show 3<=8 by decide)) (ok.2.le (show 3<=8 by decide));generalize az (mp gE al)=Y at dx ⊢;unfold F5;cases e:!pyEq c.2.1 c.2.2 with
  |false=>
   rw[e]at ne;simp! only[dx,ne]
  |true=>
   rw[e]at ne;have mt:cS [kE c.1,c.2.1,c.2.2]=some (tr c):=eF (by simp);have ap:=rQ (xs:=W) (y:=tr c) `o;have sm:=λK:Ks=>sN 7 ja (af (bJ (af (aa 3) (af (f2 aR (f2 dh (aa 2) (aa 3)) (fC (.int 0))) (af (f2 aR (f2 dh (aa 2) (aa 3)) (fC (.int 1))) ao)))) ao) K [none,none,‹Y›,‹kE c.1›,none,none,none,some (.own (.lst W))] (xs:=W) rfl;simp! only[dx,ne,sm,mt,ap]
 ·rintro ρ' rfl;rw[IZ,J5 (IJ _)];exact h2
theorem yM{σ:a8}(h0:σ≠[]){f s:CL}(hf:Ch σ 200 f)(hs:Ch σ 200 s):bH bV 2 8 [.tup (f.map tr),.tup (s.map tr)]=.ok (du f s):=by
 have ln1:=hf.ln;have ln2:=hs.ln;have ml:eU []=some (.lst []):=nr rfl;rw[lI];unfold bV;rw[show(aA (eh 2 (aa 3) (bJ (af (aa 4) (af (aa 5) ao)))) (bI [3,4,5] bj))=F4 from rfl,show(aA (i7 (i9 [2] (pp (fB (f2 lY (aa 3) (aa 2))) (fB (f2 dY (f2 aR (f2 dh (aa 2) (aa 3)) (fC (.int 1))) (aa 4))))) (vx 6 ja (af (aa 3) ao)) bj) (aA (eh 2 (aa 3) (eW [2] (bJ (af (f2 aR (cU (aa 2) (aa 3) (bJ (af (aa 4) (af (aa 5) ao)))) (fC (.int 0))) (af (aa 5) ao))))) (bI [3,4,5] bj)))=Ek from rfl];rw[show(aA (i7 (fB (f2 dY (f2 aR (f2 dh (aa 2) (aa 3)) (fC (.int 0))) (f2 aR (f2 dh (aa 2) (aa 3)) (fC (.int 1))))) (vx 7 ja (af (bJ (af (aa 3) (af (f2 aR (f2 dh (aa 2) (aa 3)) (fC (.int 0))) (af (f2 aR (f2 dh (aa 2) (aa 3)) (fC (.int 1))) ao)))) ao)) bj) (bI [3] bj))=F5 from rfl];generalize h1:F4=L1;generalize h2:Ek=L2;generalize h3:F5=L3;obtain⟨T2,hT2⟩:∃F:bG,F=(aA (i5 6 (dD ao)) (bI [0,3,4,5] (aA (jS (bq (aa 1)) (gT 3 (kc [3,4,5])) L2) (jb 6 (aA (i7 (fB (f2 dY (aa 6) (dD ao))) (cm (dD (af (f2 aR (aa 6) (fC (.int 0))) ao))) bj) (aA (i5 7 (dD ao)) (jb 2 (bI [0,1,3,4,5,6] (aA (jS (bq (fL dF (af (fL gf (af (aa 2) ao)) ao))) (gN 3) L3) (jb 7 (cm (fL cE (af (aa 7) ao)))))))))))) ):=⟨_,rfl⟩
 rw[<-hT2];simp! only[A0];rw[<-h1];refine AJ (σ:=σ) _ _ _ (λx=>x=.ok (du f s)) f [] 0 ⟨λc hc=>(nomatch hc),Jr,IJ _⟩ hf.sh `o ?_;have co:=rN hf;rw[show f.foldl (λal c=>gQ al c.1 c.2) []=ini f from rfl,hT2];obtain⟨T3,hT3⟩:∃F:bG,F=(jb 6 (aA (i7 (fB (f2 dY (aa 6) (dD ao))) (cm (dD (af (f2 aR (aa 6) (fC (.int 0))) ao))) bj) (aA (i5 7 (dD ao)) (jb 2 (bI [0,1,3,4,5,6] (aA (jS (bq (fL dF (af (fL gf (af (aa 2) ao)) ao))) (gN 3) L3) (jb 7 (cm (fL cE (af (aa 7) ao)))))))))):=⟨_,rfl⟩
 rw[<-hT3];generalize hW:az (mp gE (ini f))=W;simp! only[ml];rw[<-h2,<-hW];refine Aj (σ:=σ) _ _ (λx=>x=.ok (du f s)) s (ini f) [] 200 co hs.sh `o (by simp;omega) λco2=>?_;rw[JE,hT3];have so:=ui h0 co2 `o gE;rw[Ad]at so;have lt:=yJ (mp gE (s.foldl stp (ini f)));unfold du;cases es:sts (ini f) s with
 |cons k ks=>
  have ne:=tP (w:=(k::ks).map kE) (o6 λx hx=>by
   obtain⟨q,_,rfl⟩:=List.mem_map.mp hx;exact(sC 0 q).1)
  have ne:dY (.lst (kE k::ks.map kE)) (.lst [])=some (.bl true):=ne;have BJ:eU [kE k]=some (.lst [kE k]):=gH (by simp);generalize az (mp gE (s.foldl stp (ini f)))=Y;simp! only[ml,ne,BJ]
 |nil=>
  have ne:dY (.lst []) (.lst [])=some (.bl false):=tP (w:=[]) rfl;have d3:=Bs co2 `o {K0 with nx:=(jb 7 (cm (fL cE (af (aa 7) ao)))) K0} (λx=>x=.ok (.tup ((out (s.foldl stp (ini f))).map tr))) (by simp! only[]);have so:dF [.lst (encK (mp gE (s.foldl stp (ini f))))]=some (.lst ((ds (s.foldl stp (ini f))).map λc=>kE c.1)):=so;rw[h3]at d3;generalize encK (mp gE (s.foldl stp (ini f)))=EE at so lt;generalize az (mp gE (s.foldl stp (ini f)))=Y at lt d3 ⊢;simp! only[ml,ne,lt,so];exact d3
theorem yF(a:D):qY "key" ["Stale"] (.exc "Stale" ["key"] [a])=some a:=by kernel_rfl
theorem tU{σ:a8}(h0:σ≠[]){f s:CL}(hf:Ch σ 200 f)(hs:Ch σ 200 s):bH bM 2 4 [.tup (f.map tr),.tup (s.map tr)]=.ok (du f s):=by
 have j:=vj h0 hf hs;have mt:cS []=some (.tup []):=nr rfl;rw[lI];unfold bM;unfold jn at j;rw[yu]at j;unfold du;have c1:(["Stale"]:ay).contains "Stale"=true:=by decide +kernel
 cases es:sts (ini f) s with
 |nil=>
  rw[es]at j;simp! only[mt,sW,j]
 |cons k ks=>
  rw[es]at j;have BJ:eU [kE k]=some (.lst [kE k]):=gH (by simp);have fk:=yF (kE k);simp! only[mt,sW,j,c1,EH,fk,BJ]
theorem uv{σ:a8}:∀(s al:CL)(n:Nat),(∀c∈s,Sh σ (kk c.1)/\Ok 3 c.2.1/\Ok 3 c.2.2)->Co σ n al->Co σ (n+s.length) (s.foldl stp al)
 |[],_,_,_,h=>h
 |c::f,a,n,hf,h=>by
  have:=uv f (stp a c) (n+1) (λc hc=>hf c (IC _ hc)) (h.stp (hf c IB))
  rw[show n+(c::f).length=n+1+f.length by rw[Jl];omega];exact this
theorem tI{n:Nat}{xs:List D}(h:∀x∈xs,Ok n x):pl (.lst xs)=true/\bz (n+1) (.lst xs)=true:=
 ⟨by rw[b8];exact o6 λx hx=>(h x hx).1,by unfold bz;exact List.all_eq_true.mpr λx hx=>(h x hx).2.2⟩
theorem rn{n m:Nat}(h:n<=m){d:D}(hd:bz n d=true):bz m d=true:=by
  induction m with
  | zero => have : n = 0 := by omega
            subst this;exact hd
  |succ m ih=>
    by_cases e:n=m+1
    ·subst e;exact hd
    ·exact pF (ih `o)
theorem Bw{σ:a8}{f s:CL}(hf:Ch σ 200 f)(hs:Ch σ 200 s):pl (du f s)=true/\bz 8 (du f s)=true:=by
 unfold du;split
 ·rename_i k ks _;obtain⟨a,b⟩:=tI (n:=1) (xs:=[kE k]) λx hx=>by rw[List.mem_singleton.mp hx];exact sC 0 k
  exact⟨a,rn (by decide) b⟩
 ·have co:=uv s (ini f) 200 hs.sh (rN hf)
  have:=i6 (n:=4) (xs:=(out (s.foldl stp (ini f))).map tr) λx hx=>by
   obtain⟨c,hc,rfl⟩:=List.mem_map.mp hx;obtain⟨h1,h2⟩:=zj co c (List.mem_filter.mp hc).1;exact Gw h1 h2
  exact⟨this.1,rn (by decide) this.2.2⟩
theorem uk{d:D}(h:pl d=true/\bz 8 d=true):dY d d=some (.bl false):=by
 unfold dY;rw[h.1,h.2,dN];rfl
theorem eq_self{d:D}(h:pl d=true/\bz 8 d=true):pV d d=some (.bl true):=by
 unfold pV;rw[h.1,h.2,dN];rfl
theorem Cr(f s:CL):∃b,zY "list" (du f s)=some (.bl b):=by
 unfold du;split
 ·exact⟨_,rfl⟩
 ·exact⟨_,rfl⟩
noncomputable abbrev rv(c:Cg):D:=.tup [kE c.1,c.2.2,c.2.1]
theorem B3{σ:a8}{n:Nat}{s:CL}(hs:Ch σ n s)(hn:n<=900){G:aN}{ρ:ak}(h:G ρ=.ok (s.map tr)):fW [none,none,none] G (gT 3 (kc [0,1,2])) b9 (bJ (af (aa 0) (af (aa 2) (af (aa 1) ao)))) ρ=.ok (.lst (s.map rv)):=by
 have:=hs.ln
 refine ez (ds:=s.map tr) h (by rw[IZ];omega) ?_;refine pA tr rv s λc hc=>⟨[‹kE c.1›,‹c.2.1›,‹c.2.2›],rfl,rfl,?_⟩
 have mt:cS [kE c.1,c.2.2,c.2.1]=some (rv c):=eF (by simp);simp! only[mt]
theorem vM{σ:a8}{n:Nat}{s:CL}(hs:Ch σ n s)(hn:n<=900):bH dW 1 1 [.tup (s.map tr)]=.ok (.tup (s.map rv)):=by
 have lc:=B3 hs hn (G:=bq (aa 0)) (ρ:=[‹.tup (s.map tr)›]) (by simp! only[]);rw[sv];unfold dW;simp! only[lc]
theorem Eu{σ:a8}{n:Nat}{s:CL}(hs:Ch σ n s):pl (.lst (s.map rv))=true/\bz 8 (.lst (s.map rv))=true:=by
 obtain⟨a,b⟩:=tI (n:=4) (xs:=s.map rv) λx hx=>by
  obtain⟨c,hc,rfl⟩:=List.mem_map.mp hx;exact Gw (hs.sh c hc).2.2 (hs.sh c hc).2.1
 exact⟨a,rn (by decide) b⟩
theorem Ch.le{σ:a8}{n m:Nat}{s:CL}(h:Ch σ n s)(e:n<=m):Ch σ m s:=⟨h.sh,Iy h.ln e⟩
theorem Eo{m:Nat}(m1:1<=m)(c:Int):sg m c≠[]:=by
 obtain⟨k,rfl⟩:∃k,m=k+1:=⟨m-1,by omega⟩
 unfold sg;rw[Jw];exact List.cons_ne_nil _ _
noncomputable abbrev lB:bG:=(aA (bF 9 (fR (bH bV 2 8) (af (aa 7) (af (aa 8) ao)))) (aA (bF 10 (fR (bH bM 2 4) (af (aa 7) (af (aa 8) ao)))) (aA (i7 (zm (fB (f2 dY (kG "list" (aa 10)) (kG "list" (aa 9)))) (fB (f2 dY (aa 10) (aa 9)))) (cm (fC (.bl false))) bj) (aA (bF 11 (fR (bH dW 1 1) (af (aa 8) ao))) (aA (bF 12 (fW [none,none,none] (bq (aa 8)) (gT 3 (kc [0,1,2])) b9 (bJ (af (aa 0) (af (aa 2) (af (aa 1) ao)))))) (aA (i7 (zm (vC (ka (kG "tuple" (aa 11)))) (fB (f2 dY (fL iZ (af (aa 11) ao)) (aa 12)))) (cm (fC (.bl false))) bj) (bI [8,9,10,11,12] bj)))))))
theorem Ef{σ:a8}(h0:σ≠[]){f:CL}(hf:Ch σ 200 f)(x3 x4 x5 x6:Option S)(K:Ks)(Q:R D->Prop)(ss:List CL)(hs:∀s∈ss,Ch σ 200 s)(h2:Q (K.nx [none,none,none,x3,x4,x5,x6,‹.tup (f.map tr)›,none,none,none,none,none])):Q (dg (gN 8) lB K (ss.map λs=>.tup (s.map tr)) [none,none,none,x3,x4,x5,x6,‹.tup (f.map tr)›,none,none,none,none,none]):=by
 refine k8 (Q:=Q) (λ_ ρ=>ρ=[none,none,none,x3,x4,x5,x6,‹.tup (f.map tr)›,none,none,none,none,none]) ?_ rfl ?_
 ·rintro i d ρ kk' hd rfl;rw[IV]at hd;obtain⟨s,hs',rfl⟩:=Option.map_eq_some_iff.mp hd;have hs:=hs s (IX hs');have e1:=yM h0 hf hs;have e2:=tU h0 hf hs;have e3:=vM hs (by decide);have e4:=λ(a9 a10 a11:Option S)=>B3 hs (by decide) (G:=bq (aa 8)) (ρ:=[none,none,none,x3,x4,x5,x6,‹.tup (f.map tr)›,‹.tup (s.map tr)›,a9,a10,a11,none]) (by simp! only[]);obtain⟨b,hb⟩:=Cr f s;have n1:=uk (Bw hf hs);have n2:=uk (Eu hs);have bb:(b==b)=true:=by cases b<;>rfl
  have it:zY "tuple" (.tup (s.map rv))=some (.bl true):=rfl;have gl:iZ [.tup (s.map rv)]=some (.lst (s.map rv)):=rfl;refine⟨_,_,rfl,rfl,?_⟩;unfold lB;generalize du f s=X at e1 e2 hb n1;simp! only[e1,e2,hb,bb,n1,e3,e4,it,gl,n2]
 ·rintro ρ' rfl;exact h2
theorem math(ns:List Int)(hl:ns.length<=63):bH kO 1 13 [.lst (ns.map .int)]=.ok (.bl true):=by
 have c0:=sX ns 0;rw[<-tS]at c0;have c0:bH bi 2 2 [.lst (ns.map .int),.int 0]=.ok (.int (ns.getD 0 0)):=c0;obtain⟨m,em,m3⟩:∃m:Nat,1+ns.getD 0 0%3=(m:Int)/\1<=m/\m<=3:=⟨(1+ns.getD 0 0%3).toNat,by omega,by omega,by omega⟩
 obtain⟨r,er,r3⟩:∃r:Nat,ns.getD 0 0/3%4=(r:Int)/\r<=3:=⟨(ns.getD 0 0/3%4).toNat,by omega,by omega⟩
 obtain⟨as,ea,al,at'⟩:=vP ns m m3.1 m3.2 r r3 4 (by decide) (by decide) hl;have h0:=Eo m3.1 (ns.getD 0 0/16);obtain⟨a,b,c,d,rfl⟩:∃a b c d,as=[a,b,c,d]:=by
  rcases as with _|⟨a,_|⟨b,_|⟨c,_|⟨d,_|⟨e,r⟩⟩⟩⟩⟩<;>first|exact⟨_,_,_,_,rfl⟩|(exfalso;simp at al)
 have ta:=at' a (by simp);have tb:=at' b (by simp);have tc:=at' c (by simp);have td:=at' d (by simp);have s1:=lh h0 ta tb;have s2:=lh h0 tb td;have s3:=lh h0 tc td;have s4:=lh h0 tb ta;have hf:=(pI ta tb).le (show 2*63<=200 by decide);have k2:=(pI tb td).le (show 2*63<=200 by decide);have k3:=(pI tc td).le (show 2*63<=200 by decide);have k4:=(pI tb ta).le (show 2*63<=200 by decide);have e1:=yM h0 hf k2;have e2:=tU h0 hf k2;have eq:=eq_self (Bw hf k2);have mt:cS []=some (.tup []):=nr rfl;have ea:bH bP 4 9 [.lst (ns.map .int),.int m,.int r,.int 4]=.ok (.lst [bE a,bE b,bE c,bE d]):=ea;have lp:=Ef h0 hf (‹bE a›) (‹bE b›) (‹bE c›) (‹bE d›) {K0 with nx:=(cm (f2 pV (fR (bH bM 2 4) (af (aa 7) (af (fR (bH aZ 2 4) (af (aa 4) (af (aa 6) ao))) ao))) (fR (bH bV 2 8) (af (aa 7) (af (fR (bH aZ 2 4) (af (aa 4) (af (aa 6) ao))) ao))))) K0} (λx=>x=.ok (.bl true)) [chg b d,chg c d,chg b a,[]] (λs hs=>by
  rcases List.mem_cons.mp hs with z|hs
  ·rw[z];exact k2
  ·rcases List.mem_cons.mp hs with z|hs
   ·rw[z];exact k3
   ·rcases List.mem_cons.mp hs with z|hs
    ·rw[z];exact k4
    ·rw[List.mem_singleton.mp hs];exact⟨λc hc=>(nomatch hc),Jq _⟩) (by
  generalize bE b=B at s2 ⊢;generalize bE d=E at s2 ⊢;simp! only[s2,e1,e2,eq])
 have ml:eU [.tup ((chg b d).map tr),.tup ((chg c d).map tr),.tup ((chg b a).map tr),.tup []]=some (.lst [.tup ((chg b d).map tr),.tup ((chg c d).map tr),.tup ((chg b a).map tr),.tup []]):=gH (by simp);rw[sv];unfold kO;rw[show(aA (bF 9 (fR (bH bV 2 8) (af (aa 7) (af (aa 8) ao)))) (aA (bF 10 (fR (bH bM 2 4) (af (aa 7) (af (aa 8) ao)))) (aA (i7 (zm (fB (f2 dY (kG "list" (aa 10)) (kG "list" (aa 9)))) (fB (f2 dY (aa 10) (aa 9)))) (cm (fC (.bl false))) bj) (aA (bF 11 (fR (bH dW 1 1) (af (aa 8) ao))) (aA (bF 12 (fW [none,none,none] (bq (aa 8)) (gT 3 (kc [0,1,2])) b9 (bJ (af (aa 0) (af (aa 2) (af (aa 1) ao)))))) (aA (i7 (zm (vC (ka (kG "tuple" (aa 11)))) (fB (f2 dY (fL iZ (af (aa 11) ao)) (aa 12)))) (cm (fC (.bl false))) bj) (bI [8,9,10,11,12] bj)))))))=lB from rfl];generalize lB=J at lp ⊢;have un:∀x1 x2:Option S,Gk 4 (kc [3,4,5,6]) (.lst [bE a,bE b,bE c,bE d]) [‹.lst (ns.map .int)›,x1,x2,none,none,none,none,none,none,none,none,none,none]=some [‹.lst (ns.map .int)›,x1,x2,‹bE a›,‹bE b›,‹bE c›,‹bE d›,none,none,none,none,none,none]:=λ_ _=>rfl;generalize bE a=A1 at *;generalize bE b=A2 at *;generalize bE c=A3 at *;generalize bE d=A4 at *;have uu:∀(f:FX)(g:GF)(k:Ks)(ρ:ak),zy f g k ρ=kS (f ρ) k ρ λd=>(rO (g d ρ)).bind k.nx:=λ_ _ _ _=>nr rfl;simp! only[c0,gm 3,gd 3,gm 4,em,er,ea,uu,un,s1,s2,s3,s4,mt,ml];exact lp
end Tk13
open PySem PySem.W PyProof.Rows
set_option maxRecDepth 100000 in
set_option maxHeartbeats 0 in
theorem PySem.Challenge.cw_twoglass_k13_changes_joined_holds : PySem.Challenge.rw_twoglass_k13_changes_joined.Holds := by
  refine hd13 ?_
  k_fill
  refine Tk13.walk (l := PySem.Challenge.rw_twoglass_k13_changes_joined) rfl rfl (fun w h Y => PySem.W.kIn_of Y) ?F Tk13.math
  case F =>
    intro w mg fa h KX G hmg
    refine' Tk13.all_mk KX G hmg ?a0 ?l0 ?c0 ?k0 ?xa0 ?a1 ?i1 ?l1 ?c1 ?k1 ?xs0 ?xp0 ?xi0 ?xy0 ?xd0 ?xna0_0 ?xsg ?xtk ?xg0 ?xn0 ?xf0 ?xb0 ?xo0 ?xt0 ?xw0 ?xm0_0 ?dd0 ?zz
    (case a0 => k_is)
    (case l0 => delta TX.Lk; k_is)
    (case c0 => k_is)
    (case k0 => k_is)
    (case xa0 => k_is)
    (case a1 => k_is)
    (case i1 => k_is)
    (case l1 => delta TX.Lk; k_is)
    (case c1 => k_is)
    (case k1 => k_is)
    (case xs0 => k_is)
    (case xp0 => k_is)
    (case xi0 => kernel_rfl)
    (case xy0 => kernel_rfl)
    (case xd0 => k_is)
    (case xna0_0 => k_is)
    (case xsg => k_is)
    (case xtk => k_is)
    (case xg0 => k_is)
    (case xn0 => k_is)
    (case xf0 => k_is)
    (case xb0 => k_is)
    (case xo0 => k_is)
    (case xt0 => k_is)
    (case xw0 => k_is)
    (case xm0_0 => k_is)
    case dd0 => (repeat (refine' TX.KDs.mk (TX.KD.mk ?a ?l ?c ?k) ?_;(case a|l|c|k => first|delta TX.Lk;k_is|k_is)));trivial
    case zz => (repeat (refine TX.KZs.mk (by k_is) ?_));trivial
