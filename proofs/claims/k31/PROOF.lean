import PyProof.Rows.All
import Wide.All
import OpenK.AllK
import Wide.FinOn
import Lean
import PyProof.EqAt
import PyProof.EqKinds
import PyProof.TupleCall
import PySem.Challenge.RW_floodtree_k31_land_answers
set_option Elab.async false
set_option linter.all false
set_option maxRecDepth 100000
set_option bootstrap.genMatcherCode false
set_option genSizeOf false
set_option genInjectivity false
set_option tactic.hygienic false
noncomputable section
open PySem renaming wpAny_bind→Z0,wpAny_pure→Z8,Spec→X3,starEach→X5,sizeLine→W0,Program→W7,sizeLine_eq→V0,SetTable→U0,wpAny_holding→T7,wpAny_mono→T8,mainGlobals→S6,mem_of_lookup→R7,compareOp→R8,wpAny_truthy_bool→R9,bootBuiltins→Q2,Builtin→Q7,codeAny_builtin→P2,DictEntry→O1,wpAny_call_entry→O3,wpAny_newObj_type→O6,plainId_quiet→N1,NameKind→N7,wpAny_tryCatch→M0,wpAny_Call_Name_kw→L7,wpAny_updateSeq→J0,attributeBase→J5,sysModules→G0,wpAny_seqItems→G4,wpAny_passesOwn→G8,wpAny_setState_of→F9,wpAny_newList→E3,wpAny_setEntries_of→E6,recursionLimit→E7,bindArgs→E8,wpAny_callSpecial?_slot→D1,wpAny_letGo→D3,codeAny→D4,codeAny_mono→D5,tupleKind_room_in1→D6
open PySem.W renaming Frag→Z1,fnOf→T5,kitOne→Q5,findIn→P0,keepIn→P1,kia_one→O0,emptyDict→O7,codeIn→N8,instObj→K7
open PySem.Heap renaming get?_push_of_some→Z2,lt_size→Y4,get?_push_size→Y7,get?_update_ne→W9,SameBut→S8,get?_update_self→P5,size_push→N6
open Bool renaming false_ne_true→Z3,eq_iff_iff→V6,false_eq_true→Q9,and_eq_true→N3
open Option.some renaming inj→Z4
open Option renaming some→Wb,none→Wc
open Bool renaming true→Wd,false→We
open List renaming length_map→Z5,getElem?_eq_some_iff→Z6,getElem?_eq_getElem→Z7,range→Z9,mem_singleton→Y0,mem_cons→Y1,mem_append_right→Y2,getElem?_map→Y3,mem_cons_self→Y5,size_toArray→Y6,mem_cons_of_mem→Y8,mem_append→Y9,length_range→X1,length_cons→X2,length_append→X4,mem_of_getElem?→X6,mem_filter→X7,mem_append_left→X8,getElem?_append_left→W3,length_filter_le→W8,getElem?_append_right→V1,append_nil→V2,map_map→V4,map_cons→V7,map_congr_left→U1,mem_map→U3,toArray→U4,replicate→U8,getElem?_eq_none→T0,length_set→T1,mem_range→R4,getElem?_range→Q4,take_append_getElem→P4,length_singleton→P6,pairwise_map→P8,getElem?_set_ne→P9,mergeSort_perm→O5,lookup→O8,ext_getElem?→N0,pairwise_mergeSort→N4,getElem?_set_self→N5,nodup_cons→M5,map_append→M8,length_replicate→L5,mem_iff_getElem?→L6,nodup_range→L8,nodup_append→K0,getElem?_set→K4,filter_cons_of_neg→K5,filter_cons_of_pos→K6,find?_cons→K9,pairwise_lt_range→J4,lookup_cons→J7,any_eq_true→J8,mem_replicate→G3,length_nil→G9,length→F6,append_assoc→F8,any_cons→E1,getElem_mem→E9
open PySem.Obj renaming mapSeq→X0,data_mapFields→N2
open PySem.PassesOwn renaming never→X9
open Int renaming toNat_natCast→W4,ofNat_lt→U5,ofNat_le→M4,natCast_add→M9,natCast_mul→J1,lt_of_le_of_lt→G7,eq_ofNat_of_zero_le→D2
open Nat renaming not_lt→W5,lt_succ_self→V3,zero_le→U2,lt_succ_of_lt→T6,le_antisymm→T9,le_add_right→R3,le_succ→R6,lt_irrefl→Q0,le_of_not_lt→Q6,sub_le→Q8,ne_of_gt→O2,le_of_lt_succ→O9,not_lt_zero→M6,mul_le_mul_right→L9,le_succ_of_le→K3,lt_of_le_of_ne→G2,lt_succ_iff_lt_or_eq→E4,add_le_add_left→E5,mul_comm→D7
open PySem.F renaming plainAttrs_list→W6,plain_min_loop→V9,slot_list_append→T2,type_list_append→T3,entry_min_loop→N9,slot_NoneType_hash→G6,called_set→D9
open Array renaming length_toList→V5,getElem?_eq_getElem→U7,getElem?_toList→R5,getElem?_eq_none→D8
open Ne renaming symm→V8
open PySem.Value renaming ref→U6,int→P3,none→J9
open PySem.SetTable renaming below→U9
open PySem.SeqAt renaming EqAt→T4
open Option renaming map_eq_some_iff→S7
open PySem.Around renaming under_plainId→R0
open PySem.Heap.SameBut renaming update→Q3
open PyProof.Rows renaming callWith_type1→P7,get?_update_seq→M7,IntsAre→L4,assignInOrder_cons→G1
open False renaming elim→O4
open True renaming intro→K8
open Sum renaming inl→J2
open PySem.Builtin.Builtins renaming bindParams→J3
open PySem.NameKind renaming free→J6
open PySem.Str renaming ofString→F7
open PySem.PyData renaming eqvAll→E2
open PySem renaming Shared→Ww,Value→Wx,Addr→Wy,wpAny→Wz,model→WA,World→WB,Expr→WC,Heap→WD,Around→WE,eval→WF,rawInt→WG,Stmt→WH,backTo→WI,wpAny_standAt→WJ,scanBound→WL,holding→WM,Params→WN,cLine→WO,wpAny_setField→WP,intKind→WQ,behindInMarks→WR,binaryOp→WS,assignEach→WT,pyNext→WU,treeTable→WV,keywordEach→WW,sliceBounds→WX,Scope→WY,bindName→WZ,wpAny_bindName→Va,wpAny_pyIter_list→Vb,fits_of_scanBound→Vc,argBest→Vd,codeAmong→Ve,assignInOrder→Vf,wpAny_attempt→Vg,wpAny_execs_nil→Vh,letOwnedTupleGo→Vi,wpAny_specialOf→Vj,standAt→Vk,wpAny_rule→Vl,FuncData→Vm,wpAny_fieldsOf→Vn,foldedSetIterable→Vo,richCompare→Vp,wpAny_setEpoch_of→Vq,Result→Vr,tupleKind→Vs,swapsWith→Vt,getMethod→Vu,backToKw→Vv,wpAny_askSetting→Vw,builtinsNs→Vx,call_meets→Vy,wpAny_eqBool_int→Vz,wpAny_comprehension_free→VA
open PyProof.Rows renaming seqObj→VB,listUpdate_at→VC,envOfC→VD,firstMet→VE,size_push'→VF,entry_list_sort→VG,slot_list_sort→VH,AllBare→VI,assignInOrder_nil→VJ,seqEpoch_at→VL,subscriptTail_builtinR→VM,plain_sorted→VN,entry_sorted→VO
theorem VP{c:Prop}{h:Decidable c}(k:c){α:Sort _}{t e:α}:ite c t e=t:=if_pos k
theorem VQ{c:Prop}{h:Decidable c}(k:¬c){α:Sort _}{t e:α}:ite c t e=e:=if_neg k
def VR{a:Prop}{b:Sort _}(h:a)(k:¬a):b:=absurd h k
theorem VS{p:Prop}[Decidable p]:(decide p=true)=p:=decide_eq_true_eq
theorem VT{p:Prop}[Decidable p]:decide p=false↔¬p:=decide_eq_false_iff_not
theorem VU{p:Prop}[Decidable p](h:p):decide p=true:=decide_eq_true h
theorem VW{p:Prop}[Decidable p](h:¬p):decide p=false:=decide_eq_false h
abbrev ZX:=List (List Int)
abbrev ZW:=List Int
abbrev ZU:=PySem.Value->PySem.Shared->Prop
abbrev ZT:=List Nat
abbrev ZO:=List PySem.Value
abbrev ZN:=List (PySem.Addr×PySem.Obj)
abbrev ZM:=PySem.Str->Option PySem.Value
abbrev ZL:=List PySem.Str
abbrev ZK:=Option Int
abbrev ZJ:=PySem.Addr->Prop
abbrev ZI:=List (PySem.Str×Nat)
abbrev ZH:=Nat->Bool
abbrev ZG:=Nat->List Nat
abbrev ZF:=List (Int×Int)
abbrev ZE:=Nat->Nat
abbrev ZD:=Nat->Nat->Prop
abbrev ZC:=List (Option Int)
abbrev ZA:=Int×Int
abbrev Zz:=Option PySem.Addr
abbrev Zy:=List PySem.Addr
abbrev Zx:=Nat->Option (Nat×Nat)
abbrev Zw:=Nat->Nat->Bool
abbrev Zv:=Array (Int×PySem.Value)
abbrev Zu:=Int->Option (Int×Int)
abbrev Zt:=List (PySem.Str×PySem.Addr)
abbrev Zs:=Nat->Option Nat
abbrev Zr:=Array Nat
abbrev Zq:=Array PySem.Value
abbrev Zp:=(Int×Int)
abbrev Zo:=List (List Int)×Int
abbrev Zn:=Option (Int)
abbrev Zm:=Array (Option PySem.Value)
abbrev Zl:=Option PySem.Value->PySem.Shared->Prop
abbrev Zk:=List (PySem.Str×PySem.Value)
abbrev Zj:=Bool->PySem.Shared->Prop
abbrev Zi:=Option (List Int)
abbrev Zh:=List PySem.Value->PySem.Shared->Prop
abbrev Zg:=List (List Nat)×List Nat
namespace L2
def gR(h:True:=by decide):True:=trivial
def a1q(h:True:=by intro _;rfl):True:=trivial
def cV(h:True:=by rfl):True:=trivial
def a3q(h:True:=by with_unfolding_all rfl):True:=trivial
def a4q(h:True:=by trivial):True:=trivial
open PySem PySem.Spec PyProof.Rows
def inClass(s:WH)(j:Nat):WH:=match s with
 |.ClassDef _ _ _ body _ _ _ _ _ _ _=>body.getD j<|.Pass ⟨0,0,0,0⟩
 |_=>.Pass ⟨0,0,0,0⟩
def bU(s:WH):Arguments:=match s with
 |.FunctionDef _ a _ _ _ _ _ _ _ _=>a
 |_=>{posonlyargs:=[],args:=[],vararg:=Wc,kwonlyargs:=[],kw_defaults:=[],kwarg:=Wc,defaults:=[]}
def bb(s:WH):List WH:=match s with
 |.FunctionDef _ _ b _ _ _ _ _ _ _=>b
 |_=>[]
def ao(s:WH):WY:=match s with
 |.FunctionDef _ _ _ _ _ _ sc _ _ _=>sc
 |_=>{kind:=.function,names:=[],isGenerator:=We,isCoroutine:=We}
end L2

namespace Hd
open PySem PySem.W
def odds:List Obj->List Obj
 |[]=>[]
 |[a]=>[a]
 |a ::_ ::l=>a ::odds l
def ofL:Nat->List Obj->BT
 |0,_=>.nil
 |_+1,[]=>.nil
 |n+1,v ::l=>.node v (ofL n<|odds l)<|ofL n<|odds l.tail
def an:Option Wx:=Wb<|.ref 6
def z:Pos:=⟨0,0,0,0⟩
def s0(w:WB)(os:OsState):Ww:=⟨boot_heap w.params,Array.mk [],boot_drawn,boot_toks,os⟩
section
variable (p:W7)
def ob(w:WB)(os:OsState):List Obj:=((topGo WV p w 11 an 12 (s0 w os)<|topStub p).map λr=>r.1.heap.objs.toList).getD []
def sa(w:WB)(os:OsState):Ww:=⟨⟨⟨ob p w os⟩,{}⟩,#[],{},187,os⟩
def sb(w:WB)(os:OsState):SharedT:=⟨ofL 20<|ob p w os,15,{},#[],{},187,os⟩
def en:Env:={scope:=p.main.scope,locals:=mainNs,globals:=mainNs,cells:=[],code:=.ref 13,frame:=Wb 14}
def cE:Code:=.body (behindTheImports p)<|en p
abbrev B:List Frame:=[topFrame z]
def rn(M:Nat)(w:WB)(os:OsState):=segRunT WV p w 11 an 1 M (sb p w os)<|piecesOf (behindTheImports p) (en p) (cE p) z B
variable {q:W7}{l:ZL}{X:Ww->Bool}{α:Type}{Yf:Ww->α}{Ya:WB->α}{N M:Nat}{e:Pos}
theorem fin(w:WB)(s:Ww)(c:Code)(e:Pos):topRun WV p w 11 an 2 s ⟨doneF .next,c,e,B⟩=Wb s:=rfl
theorem left(h1:opening p=plainProg p.main.scope.names)(h2:∀s,fenceModules? p s=Wb s)(h3:Nat.ble 600 N=Wd)(h4:Nat.ble (12+(1+(M+2))) N=Wd)(h5:∀w os,topGo WV p w 11 an 12 (s0 w os) (topStub p)=Wb (sa p w os,⟨denote WV<|cE p,cE p,z,B⟩))(h6:∀w os,segRun WV p w 11 an 1 1 (sa p w os) (blockOf (behindTheImports p) (en p) (cE p) z B)=Wb (.next,(sb p w os).abs,cE p,z))(h7:∀w os,(rn p M w os).map (λr=>(r.1,r.2.2.1,r.2.2.2,staticsOk (importedModules p.main.body) (boot_heap w.params) r.2.1.abs.heap&&namesBound p r.2.1.abs.heap&&gensDone r.2.1.abs&&laidKept (boot_heap w.params) r.2.1.abs.heap,
   openSeen q l (importedModules p.main.body) X Wd r.2.1.abs,Yf r.2.1.abs))=Wb (.next,cE p,e,Wd,openGood q l,Ya w)):LeftO p q l X Yf Ya N:=λw=>by
 obtain⟨⟨h,gs,d,k,os⟩,e1,e2⟩:=S7.mp<|boot_open h1 h3 h2 w;obtain⟨rfl,rfl,rfl,rfl⟩:h=boot_heap w.params/\gs=Array.mk []/\d=boot_drawn/\k=boot_toks:=by simpa using e2
 obtain⟨⟨f,s,c,e'⟩,r1,r2⟩:=S7.mp<|h7 w os;simp only[Prod.mk.injEq]at r2;obtain⟨rfl,rfl,rfl,r3,r4,r5⟩:=r2;have k1:=piece_app (rest:=[]) (segRun_of r1)<|piece_nil<|fin p w s.abs (cE p) e';rw[V2]at k1;have r:=topRun_mono (N-(12+(1+(M+2)))) _ _ _ _<|go_top (h5 w os)<|piece_block (h6 w os) k1;rw[Nat.add_sub_cancel' (Nat.le_of_ble_eq_true h4)]at r;unfold openEnds;rw[e1];show ((topFrom WV p w N _).map _)=_;have t:topFrom WV p w N ⟨boot_heap w.params,Array.mk [],boot_drawn,boot_toks,os⟩=Wb s.abs:=by unfold topFrom;rw[show ((boot_heap w.params).isNs S6&&(Array.mk []:Array GenState).size==0)=Wd by kernel_rfl,show (boot_heap w.params).objs.size=11 by kernel_rfl,show (boot_heap w.params).nsMap S6 "__annotations__"=an by kernel_rfl];show (topRun WV p w 11 an N (s0 w os)<|topStub p).bind _=_;rw[r];show (match staticsOk (importedModules p.main.body) (boot_heap w.params) s.abs.heap&&namesBound p s.abs.heap&&gensDone s.abs&&laidKept (boot_heap w.params) s.abs.heap with|true=>Wb s.abs|false=>Wc)=_;rw[r3]
 rw[t];show Wb (_,_)=Wb (_,_);rw[r4,r5]
theorem run(M:Nat):rn p M=λw os=>PySem.W.Fast.tw10110043849684766642 PySem.W.Fast.tw14364793385576792824 p w 11 an 1 M (sb p w os) (piecesOf (behindTheImports p) (en p) (cE p) z B):=by unfold rn;rw[PySem.W.Fast.te10110043849684766642,PySem.W.Fast.te14364793385576792824]
end
def head{l:OpenLaw}{q:W7}{H:Hook}{d:DefRec}{N:Nat}(ws:l.wellSaid=Wd)(lf:LeftO l.row.prog q [] (λs=>xlAt q [] s&&recOk l.row.records s) H.obs H.val N)(e1:defOf q l.row.name=Wb (d,[]))(e2:l.row.prog.theDef l.row.name=Wb (d.params,d.body,d.scope))(e3:kwWritten? d.params.kwonlyargs d.params.kw_defaults=Wb [])(e4:(!l.row.writes || l.row.records.isEmpty)=Wd)(e5:(chainsOk q&&opensWell l.row.prog&&(frees l.row.toRowW&&l.row.within.isEmpty))=Wd)(e6:l.row.prog.bare)(e7:l.row.toRowW.promised)(c:WalkO q [] (XL q []) H.says l.row.toRowW d [] λf vs=>PySem.call f vs):l.Holds :=
 holds_law ws λk=>holds_open lf H.of H.keeps (λs e=>xl_of s (Bool.and_eq_true_iff.mp e).1) XL.keeps e1 e2 e3 (λx e=>recFacts_of (Bool.and_eq_true_iff.mp e).2) e4 k e5 e6 e7 c
end Hd

namespace K31
open PySem PySem.Spec PyProof.Rows L2
def top(i:Nat):WH:=PySem.Challenge.pw_floodtree_k31_land_answers.main.body.getD i<|.Pass ⟨0,0,0,0⟩
def dn:WH->Str
 |.FunctionDef n ..=>n
 |_=>""
def fo(q:WH->Str)(st:WH)(c:Nat)(pm:Wx):Obj:=⟨.type "function",Wc,.func<|T5 (dn st) (q st) (bU st) (bb st) (ao st) .none .none .none pm Wc (.ref c) .none,#[]⟩
def cq(q:WH->Str)(st:WH)(t l g f a b:Nat)(c d:Wx)(e i m:Nat):Obj:=⟨.type "code",Wc,.fields #[.str (dn st) t,.str (q st) (t+1),.str "/claim/cut.py" (t+2),.int l 0,.int g 0,.int 0 0,.int 0 0,.int f 0,.ref a,.bool Wd,.int 181 0,.ref b,.none,c,d,.ref e,.int i 0,.int l 0,.str "/claim/cut.py" m],#[]⟩
def fA:=fo dn
def cA(st:WH)(t l g a i:Nat):Obj:=cq dn st t l g 3 a (a+1) (.ref<|a+2) (.ref<|a+3) (a+4) i<|i+1
def cB(st:WH)(t l g a i:Nat):Obj:=cq dn st t l g 3 a (a+1) .none .none (a+2) i<|i+1
def ne(P:WN)(n:Str)(t:Nat)(v:Wx):O1:=⟨PyData.keyHash P n,.str n t,v⟩
def d3_0(P:WN):List O1:=[ne P "__name__" 165 (.str "law_floodtree_k31_land_answers" 647),ne P "__doc__" 166 .none,ne P "__package__" 167 .none,ne P "__loader__" 168 (.builtin "__main__.__loader__#opaque"),ne P "__spec__" 169 .none,ne P "__annotations__" 170 (.ref 6),ne P "__builtins__" 171 (.ref 4),ne P "__file__" 173 (.str "/claim/cut.py" 172)]
def d3_8(P:WN):List O1:=[ne P "__cached__" 174 .none,ne P "_wall" 193 (.ref 21),ne P "size_of" 203 (.ref 28),ne P "neighbours" 218 (.ref 35),ne P "on_rim" 228 (.ref 42),ne P "height_of" 237 (.ref 49),ne P "all_cells" 245 (.ref 56),ne P "heights_by_number" 251 (.ref 61)]
def d3_16(P:WN):List O1:=[ne P "floor_of" 257 (.ref 66),ne P "heights_in" 264 (.ref 73),ne P "order_key" 272 (.ref 80),ne P "comes_before" 281 (.ref 87),ne P "earliest_of" 290 (.ref 94),ne P "in_order" 298 (.ref 101),ne P "covered_at" 304 (.ref 106),ne P "RimWater" 362 (.ref 140)]
def d3_24(P:WN):List O1:=[ne P "risen_over" 373 (.ref 151),ne P "filled" 379 (.ref 156),ne P "Meetings" 432 (.ref 190),ne P "Water" 485 (.ref 228),ne P "water_over" 496 (.ref 239),ne P "tree_of" 502 (.ref 244),ne P "lakes_at" 508 (.ref 249),ne P "ways_back" 525 (.ref 256)]
def d3_32(P:WN):List O1:=[ne P "stretch_under" 535 (.ref 263),ne P "stretches_at" 550 (.ref 270),ne P "copy_of" 559 (.ref 277),ne P "Land" 646 (.ref 344),ne P "_law_cell_at" 656 (.ref 355),ne P "_law_number" 668 (.ref 362),ne P "_law_height" 680 (.ref 369),ne P "_law_floor" 686 (.ref 374)]
def d3_40(P:WN):List O1:=[ne P "_law_keys" 692 (.ref 379),ne P "_law_near" 710 (.ref 386),ne P "_law_whole" 718 (.ref 393),ne P "_law_numbers" 728 (.ref 400),ne P "_law_tuples" 738 (.ref 407),ne P "_law_tree" 744 (.ref 412),ne P "_law_labels" 750 (.ref 417),ne P "_law_height_asked" 761 (.ref 424)]
def d3_48(P:WN):List O1:=[ne P "_law_asked" 767 (.ref 429),ne P "_law_floors" 777 (.ref 436),ne P "law" 783 (.ref 441)]
def d139_0(P:WN):List O1:=[ne P "__module__" 314 (.str "floodtree.filling" 305),ne P "__firstlineno__" 318 (.int 46 317),ne P "__init__" 329 (.ref 120),ne P "rise_to" 335 (.ref 125),ne P "opens" 344 (.ref 132),ne P "new_beside" 350 (.ref 137),ne P "__static_attributes__" 355 (.ref 138),ne P "__dict__" 357 (.ref 141)]
def d139_8(P:WN):List O1:=[ne P "__weakref__" 359 (.ref 142),ne P "__doc__" 360 .none]
def d189_0(P:WN):List O1:=[ne P "__module__" 389 (.str "floodtree.lakes" 380),ne P "__firstlineno__" 393 (.int 83 392),ne P "__init__" 401 (.ref 170),ne P "living" 410 (.ref 177),ne P "let_meet" 416 (.ref 182),ne P "tree" 422 (.ref 187),ne P "__static_attributes__" 425 (.ref 188),ne P "__dict__" 427 (.ref 191)]
def d189_8(P:WN):List O1:=[ne P "__weakref__" 429 (.ref 192),ne P "__doc__" 430 .none]
def d227_0(P:WN):List O1:=[ne P "__module__" 440 (.str "floodtree.lakes" 380),ne P "__firstlineno__" 444 (.int 105 443),ne P "__init__" 450 (.ref 206),ne P "start_now" 458 (.ref 213),ne P "homes_around" 464 (.ref 218),ne P "let_come" 473 (.ref 225),ne P "__static_attributes__" 478 (.ref 226),ne P "__dict__" 480 (.ref 229)]
def d227_8(P:WN):List O1:=[ne P "__weakref__" 482 (.ref 230),ne P "__doc__" 483 .none]
def d343_0(P:WN):List O1:=[ne P "__module__" 567 (.str "floodtree.land" 551),ne P "__firstlineno__" 571 (.int 165 570),ne P "__init__" 581 (.ref 292),ne P "floor_now" 588 (.ref 299),ne P "lakes" 595 (.ref 306),ne P "lake" 604 (.ref 313),ne P "many_at" 612 (.ref 320),ne P "levels" 619 (.ref 327)]
def d343_8(P:WN):List O1:=[ne P "must_have" 627 (.ref 334),ne P "change" 636 (.ref 341),ne P "__static_attributes__" 639 (.ref 342),ne P "__dict__" 641 (.ref 345),ne P "__weakref__" 643 (.ref 346),ne P "__doc__" 644 .none]
def yY:Wx:=.str "floodtree.cells" 194
def CV:Wx:=.str "floodtree.filling" 305
def AA:Wx:=.str "floodtree.lakes" 380
def pm3:Wx:=.str "floodtree.stretches" 509
def pm4:Wx:=.str "floodtree.land" 551
def w6:Wx:=.str "law_floodtree_k31_land_answers" 647
def fK(P:WN):Z1:=(nat_lit 3,⟨(.type "dict"),Wc,.dict ((d3_0 P)++(d3_8 P)++(d3_16 P)++(d3_24 P)++(d3_32 P)++(d3_40 P)++(d3_48 P)).toArray 51,#[]⟩) ::
 (nat_lit 27,cA (top 2) 196 5 1 22 201) ::
 (nat_lit 28,fA (top 2) 27 yY) ::
 (nat_lit 34,cA (top 3) 204 8 3 29 216) ::
 (nat_lit 35,fA (top 3) 34 yY) ::
 (nat_lit 41,cA (top 4) 219 18 2 36 226) ::
 (nat_lit 42,fA (top 4) 41 yY) ::
 (nat_lit 48,cA (top 5) 229 22 2 43 235) ::
 (nat_lit 49,fA (top 5) 48 yY) ::
 (nat_lit 55,cA (top 6) 238 25 1 50 243) ::
 (nat_lit 56,fA (top 6) 55 yY) ::
 (nat_lit 60,cB (top 7) 246 28 1 57 249) ::
 (nat_lit 61,fA (top 7) 60 yY) ::
 (nat_lit 65,cB (top 8) 252 30 2 62 255) ::
 (nat_lit 66,fA (top 8) 65 yY) ::
 (nat_lit 72,cA (top 9) 258 33 1 67 262) ::
 (nat_lit 73,fA (top 9) 72 yY) ::
 (nat_lit 79,cA (top 10) 265 35 2 74 270) ::
 (nat_lit 80,fA (top 10) 79 yY) ::
 (nat_lit 86,cA (top 11) 273 37 3 81 279) ::
 (nat_lit 87,fA (top 11) 86 yY) ::
 (nat_lit 93,cA (top 12) 282 39 2 88 288) ::
 (nat_lit 94,fA (top 12) 93 yY) ::
 (nat_lit 100,cA (top 13) 291 41 1 95 296) ::
 (nat_lit 101,fA (top 13) 100 yY) ::
 (nat_lit 105,cB (top 14) 299 43 2 102 302) ::
 (nat_lit 106,fA (top 14) 105 yY) ::
 (nat_lit 119,cq (λx=>"RimWater.__init__") (inClass (top 16) 0) 319 48 3 3 114 115 (.ref 116) (.ref 117) 118 327 328) ::
 (nat_lit 120,fo (λx=>"RimWater.__init__") (inClass (top 16) 0) 119 CV) ::
 (nat_lit 124,cq (λx=>"RimWater.rise_to") (inClass (top 16) 1) 330 58 2 3 121 122 .none .none 123 333 334) ::
 (nat_lit 125,fo (λx=>"RimWater.rise_to") (inClass (top 16) 1) 124 CV) ::
 (nat_lit 131,cq (λx=>"RimWater.opens") (inClass (top 16) 2) 336 65 3 3 126 127 (.ref 128) (.ref 129) 130 342 343) ::
 (nat_lit 132,fo (λx=>"RimWater.opens") (inClass (top 16) 2) 131 CV) ::
 (nat_lit 136,cq (λx=>"RimWater.new_beside") (inClass (top 16) 3) 345 68 2 3 133 134 .none .none 135 348 349) ::
 (nat_lit 137,fo (λx=>"RimWater.new_beside") (inClass (top 16) 3) 136 CV) ::
 (nat_lit 139,⟨(.type "dict"),Wc,.dict ((d139_0 P)++(d139_8 P)).toArray 4,#[]⟩) ::
 (nat_lit 140,⟨(.type "type"),Wc,.cls ⟨"RimWater",[(.type "object")],[(.ref 140),(.type "object")],139,"RimWater",Wd,[],[],We,Wc,We⟩,#[Wc,Wc,(Wb<|.str "RimWater" 307),(Wb<|.str "RimWater" 315),(Wb<|.builtin "object.__new__"),(Wb<|.bool Wd)]⟩) ::
 (nat_lit 150,cA (top 17) 363 74 3 145 371) ::
 (nat_lit 151,fA (top 17) 150 CV) ::
 (nat_lit 155,cB (top 18) 374 79 2 152 377) ::
 (nat_lit 156,fA (top 18) 155 CV) ::
 (nat_lit 169,cq (λx=>"Meetings.__init__") (inClass (top 20) 0) 394 85 2 3 164 165 (.ref 166) (.ref 167) 168 399 400) ::
 (nat_lit 170,fo (λx=>"Meetings.__init__") (inClass (top 20) 0) 169 AA) ::
 (nat_lit 176,cq (λx=>"Meetings.living") (inClass (top 20) 1) 402 89 2 3 171 172 (.ref 173) (.ref 174) 175 408 409) ::
 (nat_lit 177,fo (λx=>"Meetings.living") (inClass (top 20) 1) 176 AA) ::
 (nat_lit 181,cq (λx=>"Meetings.let_meet") (inClass (top 20) 2) 411 95 3 3 178 179 .none .none 180 414 415) ::
 (nat_lit 182,fo (λx=>"Meetings.let_meet") (inClass (top 20) 2) 181 AA) ::
 (nat_lit 186,cq (λx=>"Meetings.tree") (inClass (top 20) 3) 417 103 2 3 183 184 .none .none 185 420 421) ::
 (nat_lit 187,fo (λx=>"Meetings.tree") (inClass (top 20) 3) 186 AA) ::
 (nat_lit 189,⟨(.type "dict"),Wc,.dict ((d189_0 P)++(d189_8 P)).toArray 4,#[]⟩) ::
 (nat_lit 190,⟨(.type "type"),Wc,.cls ⟨"Meetings",[(.type "object")],[(.ref 190),(.type "object")],189,"Meetings",Wd,[],[],We,Wc,We⟩,#[Wc,Wc,(Wb<|.str "Meetings" 382),(Wb<|.str "Meetings" 390),(Wb<|.builtin "object.__new__"),(Wb<|.bool Wd)]⟩) ::
 (nat_lit 205,cq (λx=>"Water.__init__") (inClass (top 21) 0) 445 107 3 3 202 203 .none .none 204 448 449) ::
 (nat_lit 206,fo (λx=>"Water.__init__") (inClass (top 21) 0) 205 AA) ::
 (nat_lit 212,cq (λx=>"Water.start_now") (inClass (top 21) 1) 451 113 2 3 207 208 (.ref 209) (.ref 210) 211 456 457) ::
 (nat_lit 213,fo (λx=>"Water.start_now") (inClass (top 21) 1) 212 AA) ::
 (nat_lit 217,cq (λx=>"Water.homes_around") (inClass (top 21) 2) 459 116 2 3 214 215 .none .none 216 462 463) ::
 (nat_lit 218,fo (λx=>"Water.homes_around") (inClass (top 21) 2) 217 AA) ::
 (nat_lit 224,cq (λx=>"Water.let_come") (inClass (top 21) 3) 465 120 2 3 219 220 (.ref 221) (.ref 222) 223 471 472) ::
 (nat_lit 225,fo (λx=>"Water.let_come") (inClass (top 21) 3) 224 AA) ::
 (nat_lit 227,⟨(.type "dict"),Wc,.dict ((d227_0 P)++(d227_8 P)).toArray 4,#[]⟩) ::
 (nat_lit 228,⟨(.type "type"),Wc,.cls ⟨"Water",[(.type "object")],[(.ref 228),(.type "object")],227,"Water",Wd,[],[],We,Wc,We⟩,#[Wc,Wc,(Wb<|.str "Water" 433),(Wb<|.str "Water" 441),(Wb<|.builtin "object.__new__"),(Wb<|.bool Wd)]⟩) ::
 (nat_lit 238,cA (top 22) 486 123 3 233 494) ::
 (nat_lit 239,fA (top 22) 238 AA) ::
 (nat_lit 243,cB (top 23) 497 128 2 240 500) ::
 (nat_lit 244,fA (top 23) 243 AA) ::
 (nat_lit 248,cB (top 24) 503 132 3 245 506) ::
 (nat_lit 249,fA (top 24) 248 AA) ::
 (nat_lit 255,cA (top 26) 511 136 4 250 523) ::
 (nat_lit 256,fA (top 26) 255 pm3) ::
 (nat_lit 262,cA (top 27) 526 147 4 257 533) ::
 (nat_lit 263,fA (top 27) 262 pm3) ::
 (nat_lit 269,cA (top 28) 536 151 3 264 548) ::
 (nat_lit 270,fA (top 28) 269 pm3) ::
 (nat_lit 276,cA (top 30) 553 163 1 271 557) ::
 (nat_lit 277,fA (top 30) 276 pm4) ::
 (nat_lit 285,⟨(.type "tuple"),Wc,.seq #[(.int 4 572)] 0,#[]⟩) ::
 (nat_lit 291,cq (λx=>"Land.__init__") (inClass (top 31) 0) 573 167 3 3 286 287 (.ref 288) (.ref 289) 290 579 580) ::
 (nat_lit 292,⟨(.type "function"),Wc,.func<|T5 "__init__" "Land.__init__" (bU<|inClass (top 31) 0) (bb<|inClass (top 31) 0) (ao<|inClass (top 31) 0) (.ref 285) .none .none (.str "floodtree.land" 551) Wc (.ref 291) .none,#[]⟩) ::
 (nat_lit 298,cq (λx=>"Land.floor_now") (inClass (top 31) 1) 582 171 1 3 293 294 (.ref 295) (.ref 296) 297 586 587) ::
 (nat_lit 299,fo (λx=>"Land.floor_now") (inClass (top 31) 1) 298 pm4) ::
 (nat_lit 305,cq (λx=>"Land.lakes") (inClass (top 31) 2) 589 174 1 3 300 301 (.ref 302) (.ref 303) 304 593 594) ::
 (nat_lit 306,fo (λx=>"Land.lakes") (inClass (top 31) 2) 305 pm4) ::
 (nat_lit 312,cq (λx=>"Land.lake") (inClass (top 31) 3) 596 177 3 3 307 308 (.ref 309) (.ref 310) 311 602 603) ::
 (nat_lit 313,fo (λx=>"Land.lake") (inClass (top 31) 3) 312 pm4) ::
 (nat_lit 319,cq (λx=>"Land.many_at") (inClass (top 31) 4) 605 180 2 3 314 315 (.ref 316) (.ref 317) 318 610 611) ::
 (nat_lit 320,fo (λx=>"Land.many_at") (inClass (top 31) 4) 319 pm4) ::
 (nat_lit 326,cq (λx=>"Land.levels") (inClass (top 31) 5) 613 183 1 3 321 322 (.ref 323) (.ref 324) 325 617 618) ::
 (nat_lit 327,fo (λx=>"Land.levels") (inClass (top 31) 5) 326 pm4) ::
 (nat_lit 343,⟨(.type "dict"),Wc,.dict ((d343_0 P)++(d343_8 P)).toArray 4,#[]⟩) ::
 (nat_lit 344,⟨(.type "type"),Wc,.cls ⟨"Land",[(.type "object")],[(.ref 344),(.type "object")],343,"Land",Wd,[],[],We,Wc,We⟩,#[Wc,Wc,(Wb<|.str "Land" 560),(Wb<|.str "Land" 568),(Wb<|.builtin "object.__new__"),(Wb<|.bool Wd)]⟩) ::
 (nat_lit 354,cA (top 33) 649 192 2 349 654) ::
 (nat_lit 355,fA (top 33) 354 w6) ::
 (nat_lit 361,cA (top 34) 657 196 3 356 666) ::
 (nat_lit 362,fA (top 34) 361 w6) ::
 (nat_lit 368,cA (top 35) 669 201 5 363 678) ::
 (nat_lit 369,fA (top 35) 368 w6) ::
 (nat_lit 373,cB (top 36) 681 208 2 370 684) ::
 (nat_lit 374,fA (top 36) 373 w6) ::
 (nat_lit 378,cB (top 37) 687 221 1 375 690) ::
 (nat_lit 379,fA (top 37) 378 w6) ::
 (nat_lit 385,cA (top 38) 693 226 3 380 708) ::
 (nat_lit 386,fA (top 38) 385 w6) ::
 (nat_lit 392,cA (top 39) 711 237 2 387 716) ::
 (nat_lit 393,fA (top 39) 392 w6) ::
 (nat_lit 399,cA (top 40) 719 241 2 394 726) ::
 (nat_lit 400,fA (top 40) 399 w6) ::
 (nat_lit 406,cA (top 41) 729 248 2 401 736) ::
 (nat_lit 407,fA (top 41) 406 w6) ::
 (nat_lit 411,cB (top 42) 739 255 2 408 742) ::
 (nat_lit 412,fA (top 42) 411 w6) ::
 (nat_lit 416,cB (top 43) 745 273 3 413 748) ::
 (nat_lit 417,fA (top 43) 416 w6) ::
 (nat_lit 423,cA (top 44) 751 286 2 418 759) ::
 (nat_lit 424,fA (top 44) 423 w6) ::
 (nat_lit 428,cB (top 45) 762 291 5 425 765) ::
 (nat_lit 429,fA (top 45) 428 w6) ::
 (nat_lit 435,cA (top 46) 768 299 2 430 775) ::
 (nat_lit 436,fA (top 46) 435 w6) ::
 (nat_lit 440,cB (top 47) 778 306 1 437 781) ::
 (nat_lit 441,fA (top 47) 440 w6) :: []
def left:PySem.W.LeftO PySem.Challenge.pw_floodtree_k31_land_answers (PySem.W.view PySem.Challenge.pw_floodtree_k31_land_answers [0,2,3,4,5,6,7,8,9,10,11,12,13,14,16,17,18,20,21,22,23,24,26,27,28,30,31,33,34,35,36,37,38,39,40,41,42,43,44,45,46,47]) [] (λs=>PySem.W.xlAt (PySem.W.view PySem.Challenge.pw_floodtree_k31_land_answers [0,2,3,4,5,6,7,8,9,10,11,12,13,14,16,17,18,20,21,22,23,24,26,27,28,30,31,33,34,35,36,37,38,39,40,41,42,43,44,45,46,47]) [] s&&PySem.W.recOk PySem.Challenge.rw_floodtree_k31_land_answers.row.records s) (PySem.W.Hook.obs<|PySem.W.kmHook fK [3,27,28,34,35,41,42,48,49,55,56,60,61,65,66,72,73,79,80,86,87,93,94,100,101,105,106,119,120,124,125,131,132,136,137,139,140,150,151,155,156,169,170,176,177,181,182,186,187,189,190,205,206,212,213,217,218,224,225,227,228,238,239,243,244,248,249,255,256,262,263,269,270,276,277,285,291,292,298,299,305,306,312,313,319,320,326,327,343,344,354,355,361,362,368,369,373,374,378,379,385,386,392,393,399,400,406,407,411,412,416,417,423,424,428,429,435,436,440,441] (λx=>by kernel_rfl) [89,96]) (PySem.W.Hook.val<|PySem.W.kmHook fK [3,27,28,34,35,41,42,48,49,55,56,60,61,65,66,72,73,79,80,86,87,93,94,100,101,105,106,119,120,124,125,131,132,136,137,139,140,150,151,155,156,169,170,176,177,181,182,186,187,189,190,205,206,212,213,217,218,224,225,227,228,238,239,243,244,248,249,255,256,262,263,269,270,276,277,285,291,292,298,299,305,306,312,313,319,320,326,327,343,344,354,355,361,362,368,369,373,374,378,379,385,386,392,393,399,400,406,407,411,412,416,417,423,424,428,429,435,436,440,441] (λx=>by kernel_rfl) [89,96]) 20000:=by
 refine Hd.left (M:=10000) (e:=⟨306,0,333,15⟩) _ ?_ (λx=>?_) rfl rfl (λx x=>?_) (λx x=>?_) ?h
 case h =>
  rw[Hd.run,PySem.W.Fast.te4187177175401517315];intro w os;kernel_rfl
 all_goals kernel_rfl
end K31
def cW{a b c:Nat}(h:a<b)(k:b<=c):a<c:=Nat.lt_of_lt_of_le h k
def dM{a b c:Nat}(h:a<=b)(k:b<c):a<c:=Nat.lt_of_le_of_lt h k
def bK{a b:Nat}(h:a=b):a<=b:=Nat.le_of_eq h
def aO{a b c:Nat}(h:a<=b)(k:b<=c):a<=c:=Nat.le_trans h k
def cj{a b:Nat}(h:a<b):a<=b:=Nat.le_of_lt h
def bW(n:Nat):n<=n:=Nat.le_refl n
def eP{a b:Nat}(h:a<b):a≠b:=Nat.ne_of_lt h
def fD{a b c:Nat}(h:a<b)(k:b<c):a<c:=Nat.lt_trans h k
def rV{α β γ:Type}(x:Option α)(f:α->Option β)(g:β->Option γ):(x.bind f).bind g=x.bind λy=>(f y).bind g:=Option.bind_assoc x f g
def fE{α β:Type}(a:α)(f:α->Option β):(Wb a).bind f=f a:=rfl
def tZ{p q:Prop}{Q:Prop}(h:p/\q)(f:p->q->Q):Q:=f h.1 h.2
def oq03{p q r:Prop}{Q:Prop}(h:p/\q/\r)(f:p->q->r->Q):Q:=f h.1 h.2.1 h.2.2
def oq04{p q r s:Prop}{Q:Prop}(h:p/\q/\r/\s)(f:p->q->r->s->Q):Q:=f h.1 h.2.1 h.2.2.1 h.2.2.2
def k0{A:Type}{p:A->Prop}{Q:Prop}(h:∃a,p a)(f:∀a,p a->Q):Q:=h.elim λa h=>f a h
def bN{A:Type}{p q:A->Prop}{Q:Prop}(h:∃a,p a/\q a)(f:∀a,p a->q a->Q):Q:=h.elim λa h=>f a h.1 h.2
def oF{A:Type}{p q r:A->Prop}{Q:Prop}(h:∃a,p a/\q a/\r a)(f:∀a,p a->q a->r a->Q):Q:=h.elim λa h=>f a h.1 h.2.1 h.2.2
def oq14{A:Type}{p q r s:A->Prop}{Q:Prop}(h:∃a,p a/\q a/\r a/\s a)(f:∀a,p a->q a->r a->s a->Q):Q:=h.elim λa h=>f a h.1 h.2.1 h.2.2.1 h.2.2.2
def oq21{A B:Type}{p:A->B->Prop}{Q:Prop}(h:∃a b,p a b)(f:∀a b,p a b->Q):Q:=h.elim λa h=>h.elim λb h=>f a b h
def oq22{A B:Type}{p q:A->B->Prop}{Q:Prop}(h:∃a b,p a b/\q a b)(f:∀a b,p a b->q a b->Q):Q:=h.elim λa h=>h.elim λb h=>f a b h.1 h.2
def k7{A B:Type}{p q r:A->B->Prop}{Q:Prop}(h:∃a b,p a b/\q a b/\r a b)(f:∀a b,p a b->q a b->r a b->Q):Q:=h.elim λa h=>h.elim λb h=>f a b h.1 h.2.1 h.2.2
def oq24{A B:Type}{p q r s:A->B->Prop}{Q:Prop}(h:∃a b,p a b/\q a b/\r a b/\s a b)(f:∀a b,p a b->q a b->r a b->s a b->Q):Q:=h.elim λa h=>h.elim λb h=>f a b h.1 h.2.1 h.2.2.1 h.2.2.2
def oq25{A B:Type}{p q r s t:A->B->Prop}{Q:Prop}(h:∃a b,p a b/\q a b/\r a b/\s a b/\t a b)(f:∀a b,p a b->q a b->r a b->s a b->t a b->Q):Q:=h.elim λa h=>h.elim λb h=>f a b h.1 h.2.1 h.2.2.1 h.2.2.2.1 h.2.2.2.2
def oq26{A B:Type}{p q r s t u:A->B->Prop}{Q:Prop}(h:∃a b,p a b/\q a b/\r a b/\s a b/\t a b/\u a b)(f:∀a b,p a b->q a b->r a b->s a b->t a b->u a b->Q):Q:=h.elim λa h=>h.elim λb h=>f a b h.1 h.2.1 h.2.2.1 h.2.2.2.1 h.2.2.2.2.1 h.2.2.2.2.2
def oq32{A B C:Type}{p q:A->B->C->Prop}{Q:Prop}(h:∃a b c,p a b c/\q a b c)(f:∀a b c,p a b c->q a b c->Q):Q:=h.elim λa h=>h.elim λb h=>h.elim λc h=>f a b c h.1 h.2
def oq33{A B C:Type}{p q r:A->B->C->Prop}{Q:Prop}(h:∃a b c,p a b c/\q a b c/\r a b c)(f:∀a b c,p a b c->q a b c->r a b c->Q):Q:=h.elim λa h=>h.elim λb h=>h.elim λc h=>f a b c h.1 h.2.1 h.2.2
def rX{A B C:Type}{p q r s:A->B->C->Prop}{Q:Prop}(h:∃a b c,p a b c/\q a b c/\r a b c/\s a b c)(f:∀a b c,p a b c->q a b c->r a b c->s a b c->Q):Q:=h.elim λa h=>h.elim λb h=>h.elim λc h=>f a b c h.1 h.2.1 h.2.2.1 h.2.2.2
def oq42{A B C D:Type}{p q:A->B->C->D->Prop}{Q:Prop}(h:∃a b c d,p a b c d/\q a b c d)(f:∀a b c d,p a b c d->q a b c d->Q):Q:=h.elim λa h=>h.elim λb h=>h.elim λc h=>h.elim λd h=>f a b c d h.1 h.2
def oq44{A B C D:Type}{p q r s:A->B->C->D->Prop}{Q:Prop}(h:∃a b c d,p a b c d/\q a b c d/\r a b c d/\s a b c d)(f:∀a b c d,p a b c d->q a b c d->r a b c d->s a b c d->Q):Q:=h.elim λa h=>h.elim λb h=>h.elim λc h=>h.elim λd h=>f a b c d h.1 h.2.1 h.2.2.1 h.2.2.2
def oq46{A B C D:Type}{p q r s t u:A->B->C->D->Prop}{Q:Prop}(h:∃a b c d,p a b c d/\q a b c d/\r a b c d/\s a b c d/\t a b c d/\u a b c d)(f:∀a b c d,p a b c d->q a b c d->r a b c d->s a b c d->t a b c d->u a b c d->Q):Q:=h.elim λa h=>h.elim λb h=>h.elim λc h=>h.elim λd h=>f a b c d h.1 h.2.1 h.2.2.1 h.2.2.2.1 h.2.2.2.2.1 h.2.2.2.2.2
def oq72{A B C D E G I:Type}{p q:A->B->C->D->E->G->I->Prop}{Q:Prop}(h:∃a b c d e g i,p a b c d e g i/\q a b c d e g i)(f:∀a b c d e g i,p a b c d e g i->q a b c d e g i->Q):Q:=h.elim λa h=>h.elim λb h=>h.elim λc h=>h.elim λd h=>h.elim λe h=>h.elim λg h=>h.elim λi h=>f a b c d e g i h.1 h.2
def oG{p q r:Prop}(h0:p)(h1:q)(h2:r):p/\q/\r:=⟨h0,h1,h2⟩
def qr{p q r s:Prop}(h0:p)(h1:q)(h2:r)(h3:s):p/\q/\r/\s:=⟨h0,h1,h2,h3⟩
def aD{A:Type}{p q:A->Prop}(a:A)(h0:p a)(h1:q a):∃a,p a/\q a:=⟨a,h0,h1⟩
def eD{A:Type}{p q r:A->Prop}(a:A)(h0:p a)(h1:q a)(h2:r a):∃a,p a/\q a/\r a:=⟨a,h0,h1,h2⟩
def k8{A:Type}{p q r s:A->Prop}(a:A)(h0:p a)(h1:q a)(h2:r a)(h3:s a):∃a,p a/\q a/\r a/\s a:=⟨a,h0,h1,h2,h3⟩
def eB{A B:Type}{p q r:A->B->Prop}(a:A)(b:B)(h0:p a b)(h1:q a b)(h2:r a b):∃a b,p a b/\q a b/\r a b:=⟨a,b,h0,h1,h2⟩
def AB{A B:Type}{p q r s t:A->B->Prop}(a:A)(b:B)(h0:p a b)(h1:q a b)(h2:r a b)(h3:s a b)(h4:t a b):∃a b,p a b/\q a b/\r a b/\s a b/\t a b:=⟨a,b,h0,h1,h2,h3,h4⟩
def oi79{A B C D E G I:Type}{p q r s t u v w x:A->B->C->D->E->G->I->Prop}(a:A)(b:B)(c:C)(d:D)(e:E)(g:G)(i:I)(h0:p a b c d e g i)(h1:q a b c d e g i)(h2:r a b c d e g i)(h3:s a b c d e g i)(h4:t a b c d e g i)(h5:u a b c d e g i)(h6:v a b c d e g i)(h7:w a b c d e g i)(h8:x a b c d e g i):∃a b c d e g i,p a b c d e g i/\q a b c d e g i/\r a b c d e g i/\s a b c d e g i/\t a b c d e g i/\u a b c d e g i/\v a b c d e g i/\w a b c d e g i/\x a b c d e g i:=⟨a,b,c,d,e,g,i,h0,h1,h2,h3,h4,h5,h6,h7,h8⟩
namespace L2
open PySem PySem.Spec PyProof.Rows
abbrev Key:=Sum Int Str
def jl:Key->Wx->Bool
 |.inl k,v=>Value.isInt k v
 |.inr x,v=>Value.isStrOf x v
def keyH(w:WB):Key->Int
 |.inl k=>hashInt k
 |.inr x=>hashStr w x
def bF:∀{k:Key} {v:Wx},jl k v=Wd->(∃i t,k=J2 i/\v=P3 i t)\/(∃x t,k=Sum.inr x/\v=Value.str x t):=λ{k v} h=>by
 cases k with
 |inl i=>exact k0 (Value.isInt_shape (k:=i) (v:=v) h) λt e=>.inl ⟨i,t,rfl,e⟩
 |inr x=>exact k0 (Value.isStrOf_shape (x:=x) (v:=v) h) λt e=>.inr ⟨x,t,rfl,e⟩
def yZ(i:Int)(t:Tok):jl (.inl i) (.int i t)=Wd:=by simp[jl,Value.isInt]
def z5(x:Str)(t:Tok):jl (.inr x) (.str x t)=Wd:=by simp[jl,Value.isStrOf]
def key_ll(a b:Int):decide ((J2 a:Key)=J2 b)=(a==b):=by
 by_cases e:a=b
 ·subst e;simp
 ·have h:¬ (J2 a:Key)=J2 b:=λq=>e<|J2.inj q;rw[VW h];exact(beq_eq_false_iff_ne.mpr e).symm
def key_rr(a b:Str):decide ((Sum.inr a:Key)=Sum.inr b)=decide (a=b):=by
 by_cases e:a=b
 ·subst e;simp
 ·have h:¬ (Sum.inr a:Key)=Sum.inr b:=λq=>e<|Sum.inr.inj q;rw[VW h,VW e]
def key_lr(a:Int)(b:Str):decide ((J2 a:Key)=Sum.inr b)=We:=VW λq=>nomatch q
def key_rl(a:Str)(b:Int):decide ((Sum.inr a:Key)=J2 b)=We:=VW λq=>nomatch q
def bi(prog:W7)(w:WB):PySem.KeyKind prog w Key where
 is:=jl
 hash:=keyH w
 inj:=λv a b ha hb=>by
  rcases bF ha with ⟨i,t,rfl,rfl⟩|⟨x,t,rfl,rfl⟩
  ·rcases bF hb with ⟨j,u,rfl,e⟩|⟨y,u,rfl,e⟩
   ·injection e with e1 _;rw[e1]
   ·exact nomatch e
  ·rcases bF hb with ⟨j,u,rfl,e⟩|⟨y,u,rfl,e⟩
   ·exact nomatch e
   ·injection e with e1 _;rw[e1]
 byValue:=λk v h=>by rcases bF h with ⟨i,t,rfl,rfl⟩|⟨x,t,rfl,rfl⟩<;>rfl
 pyHash:=λhv h=>by
  rcases bF hv with ⟨i,t,rfl,rfl⟩|⟨x,t,rfl,rfl⟩
  ·exact wpAny_pyHash_int h
  ·exact wpAny_pyHash_str h
 eqBool:=λhu hv h=>by
  rcases bF hu with ⟨i,t,rfl,rfl⟩|⟨x,t,rfl,rfl⟩
  ·rcases bF hv with ⟨j,u,rfl,rfl⟩|⟨y,u,rfl,rfl⟩
   ·rw[key_ll]at h;exact Vz h
   ·rw[key_lr]at h;exact T4.int_str i t y u _ _ _ _ h
  ·rcases bF hv with ⟨j,u,rfl,rfl⟩|⟨y,u,rfl,rfl⟩
   ·rw[key_rl]at h;exact T4.str_int x t j u _ _ _ _ h
   ·rw[key_rr]at h;exact wpAny_eqBool_str h
 «strs»:=λk x t v h=>by
  rcases bF h with ⟨i,u,rfl,e⟩|⟨y,u,rfl,e⟩
  ·exact nomatch e
  ·injection e with e1 _;subst e1;cases v<;>rfl
def u4(prog:W7)(w:WB)(i:Int)(t:Tok):(bi prog w).is (.inl i) (.int i t)=Wd:=yZ i t
def u5(prog:W7)(w:WB)(x:Str)(t:Tok):(bi prog w).is (.inr x) (.str x t)=Wd:=z5 x t
set_option genInjectivity true in
inductive V where
 |non|bl (b:Bool)|int (i:Int)|str (x:Str)|byt (b:Array UInt8)|flt (b:UInt64)|ref (a:Wy)|ty (n:String)
 deriving DecidableEq
def RelV:V->Wx->Prop
 |.non,u=>u=J9
 |.bl b,u=>u=Value.bool b
 |.int i,u=>∃t,u=P3 i t
 |.str x,u=>∃t,u=Value.str x t
 |.byt b,u=>∃t,u=Value.bytes b t
 |.flt b,u=>∃t,u=Value.float b t
 |.ref a,u=>u=U6 a
 |.ty n,u=>u=Value.type n
abbrev aS:List V->List Wx->Prop:=Paired RelV
def aS.length(r:aS xs us):xs.length=us.length:=Paired.length r
def aS.get:∀{xs:List V} {us:ZO} {i:Nat} {x:V},aS xs us->xs[i]?=Wb x->∃u,us[i]?=Wb u/\RelV x u:=by
 intro xs us i x p;induction p generalizing i with
 |nil=>exact λe=>nomatch e
 |cons r t ih =>
  cases i with
  |zero=>exact λe=>aD _ rfl<|Z4 e▸r
  |succ i=>exact λe=>ih (i:=i) e
def aS.set(r:RelV x u):∀{xs:List V} {us:ZO} (i:Nat),aS xs us->aS (xs.set i x) (us.set i u):=by
 intro xs us i p;induction p generalizing i with
 |nil=>exact .nil
 |cons q t ih =>
  cases i with
  |zero=>exact .cons r t
  |succ i=>exact .cons q<|ih i
def aS.append:∀{xs ys:List V} {us ws:ZO},aS xs us->aS ys ws->aS (xs++ys) (us++ws):=λp s=>by
 induction p with
 |nil=>exact s
 |cons r _ ih=>exact .cons r ih
def aS.take:∀{xs:List V} {us:ZO} (n:Nat),aS xs us->aS (xs.take n) (us.take n):=by
 intro xs us n p;induction p generalizing n with
 |nil=>cases n<;>exact .nil
 |cons r t ih =>
  cases n with
  |zero=>exact .nil
  |succ n=>exact .cons r<|ih n
def aS.drop:∀{xs:List V} {us:ZO} (n:Nat),aS xs us->aS (xs.drop n) (us.drop n):=by
 intro xs us n p;induction p generalizing n with
 |nil=>cases n<;>exact .nil
 |cons r t ih =>
  cases n with
  |zero=>exact .cons r t
  |succ n=>exact ih n
def ji:Option V->Option Wx->Prop
 |some v,Wb u=>RelV v u
 |none,Wc=>True
 |_,_=>False
def KV{κ:Type}:List (κ×V)->List (κ×Wx)->Prop:=Paired λ(p:κ×V) (q:κ×Wx)=>p.1=q.1/\RelV p.2 q.2
def kV:Key->V
 |.inl i=>.int i
 |.inr x=>.str x
inductive HO where
 |lst (xs:List V)
 |tup (xs:List V)
 |dK (kvs:List (Key×V))|dT (kvs:List (List Key×V))
 |set (S:Int->Bool) (n:Nat)
 |ins (C dx:Wy) (fs:List (Str×V))
 |own (x:Wy)
 |xd (fs:List (Str×V))
 |met (f x:Wy)
 |rng (lo hi:Int)
 |frz (o:Obj) (u:HO)
 |tbl (ps:Zq)
 |ext (φ:WD->Prop)
abbrev Hp:=Wy->Option HO
def aB(H:Hp)(a:Wy)(o:HO):Hp:=λb=>if b=a then Wb o else H b
def ae:aB H a o a=Wb o:=by unfold aB;rw[VP rfl]
def ah(h:b≠a):aB H a o b=H b:=by unfold aB;rw[VQ h]
def rY:aB (aB H a o) a u=aB H a u:=by funext b;unfold aB;split<;>rfl
def ne_of{H:Hp}(h:H a=Wb o)(h':H b=Wb u)(d:o≠u):a≠b:=by intro e;subst e;rw[h]at h';exact d<|Z4 h'
def ag{H:Hp}(h:H a=Wb o)(h':H b=Wc):a≠b:=by intro e;subst e;rw[h]at h';cases h'
section
variable (P:W7)(w:WB)
def bA(H:Hp)(h:WD)(a:Wy):HO->Prop
 |.lst xs=>xs.length<=W0/\∃(Wj:ZO) (n:Nat),aS xs Wj/\h.get? a=Wb {cls:=.type "list",data:=.seq Wj.toArray n}
 |.tup xs=>xs.length<=W0/\∃Wj:List Wx,aS xs Wj/\IsTup h a Wj.toArray
 |.dK kvs=>kvs.length<=W0/\(a==G0)=We/\∃vs,KV kvs vs/\h.DictOf (bi P w) a vs
 |.dT kvs=>kvs.length<=W0/\(a==G0)=We/\∃xs:List (List Key×Wy×Wx),
   Paired (λ(p:List Key×V) (q:List Key×Wy×Wx)=>p.1=q.1/\H q.2.1=Wb (.tup<|p.1.map kV)/\RelV p.2 q.2.2) kvs xs /\
   ∃o es ep,h.get? a=Wb o/\o.ExactDict/\o.data=.dict es ep/\es.toList=xs.map (entryOfKey<|Vs<|bi P w)/\(xs.map (·.1)).Nodup
 |.set S n=>h.SetOf (WQ P w) a S n
 |.ins C dx fs=>H dx=Wb (.own a)/\fs.length<=1000/\dx≠a/\h.get? a=Wb (K7 C dx) /\
   ∃mA,h.Ns1 dx mA/\(∀f,ji (fs.lookup f) (mA f))/\PySem.Within mA (fs.map (·.1))
 |.own _=>∃o,h.get? a=Wb o
 |.xd fs=>∃mA,h.Ns1 a mA/\∀f,ji (fs.lookup f) (mA f)
 |.rng lo hi=>∃t u v,h.get? a=Wb {cls:=.type "range",data:=.fields #[.int lo t,.int hi u,.int 1 v]}
 |.frz o u=>h.get? a=Wb o/\bA H h a u
 |.tbl ps=>h.get? a=Wb {cls:=.none,data:=.fields ps}
 |.met f x=>h.get? a=Wb (PySem.W.methodObj (.ref f)<|.ref x)
 |.ext φ=>φ h/\(∃o,h.get? a=Wb o)/\∀h1 h2:WD,φ h1->(∀o,h1.get? a=Wb o->h2.get? a=Wb o)->φ h2
def l7(H:Hp)(h:WD):Prop:=∀a o,H a=Wb o->bA P w H h a o
end
section
variable {P:W7}{w:WB}{H H':Hp}{h h':WD}{a:Wy}{o:HO}
def bA.lt(x:bA P w H h a o):a<h.objs.size:=by
 cases o with
 |lst xs=>obtain⟨_,_,_,_,e⟩:=x;exact Y4 e
 |tup xs=>obtain⟨_,_,_,p⟩:=x;exact p.lt
 |dK kvs=>obtain⟨_,_,_,_,o,_,_,e,_⟩:=x;exact Y4 e
 |dT kvs=>obtain⟨_,_,_,_,o,_,_,e,_⟩:=x;exact Y4 e
 |set S n=>obtain⟨o,_,_,_,e,_⟩:=x;exact Y4 e
 |ins C dx fs=>obtain⟨_,_,_,e,_⟩:=x;exact Y4 e
 |own y=>obtain⟨_,e⟩:=x;exact Y4 e
 |xd fs=>obtain⟨_,⟨_,_,_,e,_⟩,_⟩:=x;exact Y4 e
 |rng lo hi=>obtain⟨_,_,_,e⟩:=x;exact Y4 e
 |frz ob u=>obtain⟨e,_⟩:=x;exact Y4 e
 |tbl ps=>exact Y4 (show h.get? a=Wb _ from x)
 |met f y=>exact Y4 (show h.get? a=Wb _ from x)
 |ext φ=>obtain⟨_,⟨_,e⟩,_⟩:=x;exact Y4 e
def Paired.mapP{α β:Type}{F G:α->β->Prop}:∀{l₁:List α} {l₂:List β},Paired F l₁ l₂->(∀a b,F a b->G a b)->Paired G l₁ l₂:=λp f=>by
 induction p with
 |nil=>exact .nil
 |cons r _ ih=>exact .cons (f _ _ r) ih
def bA.stay(x:bA P w H h a o)(k:∀b u,(b=a\/H b=Wb (.own a))->h.get? b=Wb u->h'.get? b=Wb u)(ho:∀b,H b=Wb (.own a)->H' b=Wb (.own a))(ht:∀b xs,H b=Wb (.tup xs)->H' b=Wb (.tup xs)):bA P w H' h' a o:=by
 induction o with
 |lst xs=>obtain⟨z,Wj,n,r,e⟩:=x;exact⟨z,Wj,n,r,k _ _ (.inl rfl) e⟩
 |tup xs=>obtain⟨z,Wj,r,ob,e,c⟩:=x;exact⟨z,Wj,r,ob,k _ _ (.inl rfl) e,c⟩
 |dK kvs=>obtain⟨z,y,vs,r,ob,es,ep,e,c⟩:=x;exact⟨z,y,vs,r,ob,es,ep,k _ _ (.inl rfl) e,c⟩
 |dT kvs =>obtain⟨z,y,xs,r,ob,es,ep,e,c⟩:=x;exact⟨z,y,xs,Paired.mapP r λp q z=>⟨z.1,ht _ _ z.2.1,z.2.2⟩,ob,es,ep,k _ _ (.inl rfl) e,c⟩
 |set S n=>obtain⟨ob,es,ep,t,e,c⟩:=x;exact⟨ob,es,ep,t,k _ _ (.inl rfl) e,c⟩
 |ins C dx fs =>obtain⟨d,z,ne,e,mA,⟨od,es,ep,e2,c⟩,r⟩:=x;exact⟨ho _ d,z,ne,k _ _ (.inl rfl) e,mA,⟨od,es,ep,k _ _ (.inr d) e2,c⟩,r⟩
 |own y=>obtain⟨ob,e⟩:=x;exact⟨ob,k _ _ (.inl rfl) e⟩
 |xd fs=>obtain⟨mA,⟨od,es,ep,e,c⟩,r⟩:=x;exact⟨mA,⟨od,es,ep,k _ _ (.inl rfl) e,c⟩,r⟩
 |rng lo hi=>obtain⟨t,u,v,e⟩:=x;exact⟨t,u,v,k _ _ (.inl rfl) e⟩
 |frz ob u ih=>obtain⟨e,q⟩:=x;exact⟨k _ _ (.inl rfl) e,ih q⟩
 |tbl ps =>have e:h.get? a=Wb {cls:=.none,data:=.fields ps}:=x;show h'.get? a=Wb {cls:=.none,data:=.fields ps};exact k a _ (.inl rfl) e
 |met f y =>have e:h.get? a=Wb (PySem.W.methodObj (.ref f)<|.ref y):=x;show h'.get? a=Wb (PySem.W.methodObj (.ref f)<|.ref y);exact k a _ (.inl rfl) e
 |ext φ=>obtain⟨p,⟨o,e⟩,st⟩:=x;exact⟨st _ _ p λo q=>k _ _ (.inl rfl) q,⟨o,k _ _ (.inl rfl) e⟩,st⟩
def l7.lt(x:l7 P w H h)(e:H a=Wb o):a<h.objs.size:=(x a o e).lt
def l7.fresh(x:l7 P w H h)(e:h.objs.size<=a):H a=Wc:=by
 cases q:H a with
 |none=>rfl
 |some u=>exact VR (cW (x.lt q) e)<|Q0 _
def l7.kept(x:l7 P w H h)(k:∀b u,h.get? b=Wb u->h'.get? b=Wb u):l7 P w H h':=λa o e =>
 (x a o e).stay (λb u c q=>k b u q) (λc q=>q) λc c q=>q
def l7.laid(x:l7 P w H h)(k:∀b u,h.get? b=Wb u->h'.get? b=Wb u)(hp:h.objs.size<=a)(new:bA P w (aB H a o) h' a o):l7 P w (aB H a o) h':=λb u e=>by
 have hn:=x.fresh hp;by_cases hb:b=a
 ·subst hb;rw[ae]at e;cases e;exact new
 ·rw[ah hb]at e;exact(x b u e).stay (λc v i q=>k c v q) (λc q=>by rw[ah (ag q hn)];exact q) λc xs q=>by rw[ah (ag q hn)];exact q
end
def Rd(H:Hp)(a:Wy)(u:HO):Prop:=H a=Wb u\/∃o,H a=Wb (.frz o u)
def Rd.of(h:H a=Wb u):Rd H a u:=.inl h
def Rd.ok(r:Rd H a u)(x:l7 P w H h):bA P w H h a u:=by
 rcases r with r|⟨o,r⟩
 ·exact x a u r
 ·obtain⟨_,q⟩:=x a _ r;exact q
def Mut:Option HO->Prop
 |some (.lst _)=>True
 |some (.dK _)=>True
 |some (.dT _)=>True
 |some (.set _ _)=>True
 |some (.ins _ _ _)=>True
 |some (.ext _)=>True
 |_=>False
section
variable {P:W7}{w:WB}{H:Hp}{h h':WD}{x e:Wy}{o':HO}
def l7.write(ok:l7 P w H h)(mu:Mut (H x))(he:e=x\/H e=Wb (.own x))(k:∀b u,b≠e->h.get? b=Wb u->h'.get? b=Wb u)(heo:∃u,h'.get? e=Wb u)(new:bA P w (aB H x o') h' x o'):l7 P w (aB H x o') h':=λb u q=>by
 have nown:∀c y,H c=Wb (.own y)->c≠x:=λc y r z=>by subst z;rw[r]at mu;exact mu
 have ntup:∀c xs,H c=Wb (.tup xs)->c≠x:=λc xs r z=>by subst z;rw[r]at mu;exact mu
 by_cases hb:b=x
 ·subst hb;rw[ae]at q;cases q;exact new
 ·rw[ah hb]at q;by_cases hbe:b=e
  ·have q':H b=Wb (.own x):=by
    rcases he with z|z
    ·exact VR (hbe.trans z) hb
    ·rw[hbe];exact z
   rw[q]at q';cases q';obtain⟨v,hv⟩:=heo;exact⟨v,by rw[hbe];exact hv⟩
  ·refine(ok b u q).stay (λc v hc r=>k c v ?_ r) (λc r=>by rw[ah (nown c b r)];exact r) λc xs r=>by rw[ah (ntup c xs r)];exact r
   rcases hc with rfl|hc
   ·exact hbe
   ·rintro rfl;rcases he with z|z
    ·exact nown c b hc z
    ·rw[hc]at z;cases z;exact hb rfl
end
structure Un(fs ex:Zy)(H H':Hp)(h h':WD):Prop where
 keep:∀b o,h.get? b=Wb o->H b=Wc->b∉fs->b∉ex->h'.get? b=Wb o
 slot:∀b o,h.get? b=Wb o->H b=Wc->b∈fs->b∉ex->∃sl,h'.get? b=Wb {o with slots:=sl}
 free:∀b o,h.get? b=Wb o->H b=Wc->b∉ex->H' b=Wc
 there:∀b o,h.get? b=Wb o->b∉ex->∃o',h'.get? b=Wb o'
 tups:∀b xs,H b=Wb (.tup xs)->H' b=Wb (.tup xs)
 frzs:∀b o u,H b=Wb (.frz o u)->H' b=Wb (.frz o u)
 tbls:∀b ps,H b=Wb (.tbl ps)->∃more,H' b=Wb (.tbl<|ps++more)
section
variable {fs ex:Zy}{H H1:Hp}{h h1 h':WD}{a x e:Wy}{o:HO}
def Un.any(u:Un fs ex H H1 h h1)(q:h.get? b=Wb ob)(n:H b=Wc)(hx:b∉ex):∃sl,h1.get? b=Wb {ob with slots:=sl}:=by
 by_cases hb:b∈fs
 ·exact u.slot b ob q n hb hx
 ·exact⟨ob.slots,u.keep b ob q n hb hx⟩
def Un.kept(k:∀b u,h.get? b=Wb u->h'.get? b=Wb u):Un fs ex H H h h' :=
 ⟨λb ob q x x x=>k b ob q,λb ob q x x x=>⟨ob.slots,k b ob q⟩,λx x x n x=>n,λb ob q x=>⟨ob,k b ob q⟩,λx x q=>q,λx x x q=>q,λx ps q=>⟨#[],by rw[q];simp⟩⟩
def Un.refl:Un fs ex H H h h:=Un.kept λx x q=>q
def Un.laid(k:∀b u,h.get? b=Wb u->h'.get? b=Wb u)(hp:h.objs.size<=a)(hn:H a=Wc):Un fs ex H (aB H a o) h h' where
 keep:=λb u q x x x=>k b u q
 slot:=λb u q x x x=>⟨u.slots,k b u q⟩
 free:=λb u q n x=>by rw[ah (eP<|cW (Y4 q) hp)];exact n
 there:=λb u q x=>⟨u,k b u q⟩
 tups:=λb xs q=>by rw[ah (ag q hn)];exact q
 frzs:=λb u xs q=>by rw[ah (ag q hn)];exact q
 tbls:=λb ps q=>⟨#[],by rw[ah (ag q hn),q];simp⟩
def Un.write(mu:Mut (H x))(he:e=x\/H e=Wb (.own x))(k:∀b u,b≠e->h.get? b=Wb u->h'.get? b=Wb u)(heo:∃u,h'.get? e=Wb u):Un fs ex H (aB H x o) h h':=by
 have hx:∀b,H b=Wc->b≠x:=λb n z=>by subst z;rw[n]at mu;exact mu
 have hb:∀b,H b=Wc->b≠e:=λb n z=>by
  subst z;rcases he with r|r
  ·exact hx b n r
  ·rw[n]at r;cases r
 have hm:∀b u,H b=Wb u->¬ Mut (Wb u)->b≠x:=λb u q nm z=>by subst z;rw[q]at mu;exact nm mu
 refine⟨λb u q n a a=>k b u (hb b n) q,λb u q n a a=>⟨u.slots,k b u (hb b n) q⟩,λb u q n a=>by rw[ah (hx b n)];exact n,λb u q a=>?_,
  λb xs q=>by rw[ah (hm b _ q λz=>z)];exact q,λb u xs q=>by rw[ah (hm b _ q λz=>z)];exact q,λb ps q=>⟨#[],by rw[ah (hm b _ q λz=>z),q];simp⟩⟩
 by_cases hbe:b=e
 ·subst hbe;exact heo
 ·exact⟨u,k b u hbe q⟩
end
def trk(h:WD)(H:Hp):List Wy:=(Z9 h.objs.size).filter λa=>(H a).isSome
def se(h:WD)(H:Hp):WD:=PySem.W.hideAll h<|trk h H
def z6(h:WD)(H:Hp):(se h H).objs.size=h.objs.size:=PySem.W.hideAll_size _ _
def oH(e:h.get? b=Wb o)(n:H b=Wc):(se h H).get? b=Wb o :=
 PySem.W.hideAll_get _ e λhm=>by have q:(H b).isSome=Wd:=(X7.mp hm).2;rw[n]at q;simp at q
def of_hidT(e:(se h H).get? b=Wb o):h.get? b=Wb o/\H b=Wc:=by
 have e':h.get? b=Wb o:=PySem.W.of_hideAll (trk h H) e;refine⟨e',?_⟩;cases q:H b with
 |none=>rfl
 |some x =>have hm:b∈trk h H:=X7.mpr ⟨R4.mpr<|Y4 e',by simp[q]⟩;have z:(se h H).get? b=Wc:=PySem.W.hideAll_none (trk h H) hm;rw[z]at e;cases e
structure Mod(K:Z1)(mg:ZM)(base:WD):Prop where
 kin:K.In base
 glob:base.Ns S6 mg
 blt:∃mb,base.Ns Vx mb/\∀x:Str,x≠"__name__"->mb x=Q2 x
 nolimit:base.NoLimit
structure Cx where
 prog:W7
 w:WB
 K:Z1
 mg:Str->Option Wx
 base:WD
 A:WE
 N:List Str
 s₀:Ww
 H₀:Hp
 env:Env
 outer:List Env
 stack:List Env
 ex:List Wy
 fn:Str->Bool
 calm:Bool
 pn:List (Wy×Obj)
 xe:Wx->Ww->Prop
def Az(l:List Env):List Wy:=l.filterMap (·.frame)
abbrev Cx.fs(X:Cx):List Wy:=Az X.outer
def Vis(sc:WY)(x:Str):Prop:=sc.names.lookup x=Wb .local\/sc.names.lookup x=Wb .cell\/sc.names.lookup x=Wb .free
def Loc(sc:WY)(x:Str):Prop:=sc.names.lookup x=Wb .local\/sc.names.lookup x=Wb .cell
def Look(env:Env)(h:WD)(m:ZM)(x:Str)(u:Wx):Prop :=
 (env.kindOf x=Wb .local/\m x=Wb u)\/((env.kindOf x=Wb .cell\/env.kindOf x=Wb .free)/\∃c,env.cells.lookup x=Wb c/\h.IsCell c (Wb u))
structure Cx.Ok(X:Cx):Prop where
 mod:Mod X.K X.mg X.base
 kind:X.env.scope.kind=.function
 glob:X.env.globals=S6
 blt:X.env.builtins=Vx
 above:X.s₀.heap.objs.size<=X.env.locals
 inj:∀x y c,X.env.cells.lookup x=Wb c->X.env.cells.lookup y=Wb c->x=y
 has:∀x,(X.env.kindOf x=Wb .cell\/X.env.kindOf x=Wb .free)->∃c,X.env.cells.lookup x=Wb c
 cab:∀x c,X.fn x=Wd->X.env.cells.lookup x=Wb c->X.s₀.heap.objs.size<=c
 hd:X.calm=Wd->X.A.handled=Wc
 frames:X.A.frames=Wb X.stack
 stk:X.stack=X.outer\/(X.stack=X.env ::X.outer/\X.env.frame=Wb X.env.locals)
 exf:∀b∈X.ex,b≠X.env.locals/\∀x c,X.env.cells.lookup x=Wb c->c≠b
 bs:∀b o,X.base.get? b=Wb o->X.s₀.heap.get? b=Wb o/\X.H₀ b=Wc
 bsz:X.base.objs.size<=X.s₀.heap.objs.size
 noex:∀b o,X.base.get? b=Wb o->b∉X.ex
 exfs:∀b∈X.ex,b∉X.fs
 funs:X.s₀.heap.FunFrames X.base X.outer
 frf:∀b∈X.fs,X.H₀ b=Wc
structure Inv(X:Cx)(ZY:ZN)(σ:List (Option V))(H:Hp)(s:Ww):Prop where
 ok:X.Ok
 os:s.os=X.s₀.os
 bare:VI s.gens
 base:Un X.fs X.ex X.H₀ H X.s₀.heap s.heap
 loc:∃m,s.heap.Ns X.env.locals m/\∀(i:Nat) (x:Str) (v:V),X.N[i]?=Wb x->σ[i]?=Wb (Wb v)->Vis X.env.scope x->∃u,RelV v u/\Look X.env s.heap m x u
 cell:∀x c,X.env.cells.lookup x=Wb c->∃v,s.heap.IsCell c v
 free:H X.env.locals=Wc
 freeC:∀x c,X.env.cells.lookup x=Wb c->H c=Wc
 pin:∀p∈X.pn++ZY,s.heap.get? p.1=Wb p.2/\H p.1=Wc/\p.1≠X.env.locals/\p.1∉X.fs/\∀v,p.2.data≠.cell v
 hok:l7 X.prog X.w H s.heap
 len:σ.length=X.N.length
section
variable {X:Cx}{ZY:ZN}{σ:List (Option V)}{H H':Hp}{s:Ww}{h':WD}
theorem Cx.Ok.nofr(ok:X.Ok)(e:X.base.get? b=Wb o):b∉X.fs:=λhb=>by have:=(ok.funs.mem hb).1;rw[e]at this;cases this
theorem Inv.bs(I:Inv X ZY σ H s):∀b o,X.base.get? b=Wb o->s.heap.get? b=Wb o/\H b=Wc:=λb o e =>
 ⟨I.base.keep b o (I.ok.bs b o e).1 (I.ok.bs b o e).2 (I.ok.nofr e) (I.ok.noex b o e),I.base.free b o (I.ok.bs b o e).1 (I.ok.bs b o e).2 (I.ok.noex b o e)⟩
theorem Inv.bk(I:Inv X ZY σ H s):∀b o,X.base.get? b=Wb o->s.heap.get? b=Wb o:=λb o e=>(I.bs b o e).1
theorem Inv.mod(I:Inv X ZY σ H s):Mod X.K X.mg X.base:=I.ok.mod
theorem Inv.kIn(I:Inv X ZY σ H s):X.K.In s.heap:=I.ok.mod.kin.keeps I.bk
theorem Inv.nolimit(I:Inv X ZY σ H s):s.heap.NoLimit:=I.ok.mod.nolimit.keeps I.bk
theorem Inv.lt(I:Inv X ZY σ H s):X.env.locals<s.heap.objs.size:=bN I.loc λx hn x=>hn.lt
theorem Inv.sz(I:Inv X ZY σ H s):X.s₀.heap.objs.size<=s.heap.objs.size:=aO I.ok.above<|cj I.lt
theorem Inv.nofs(I:Inv X ZY σ H s){a:Wy}(h:s.heap.objs.size<=a):a∉X.fs:=λhb=>by obtain⟨_,o,ho,_⟩:=I.ok.funs.mem hb;exact VR (cW (Y4 ho)<|aO I.sz h)<|Q0 _
theorem Inv.cne(I:Inv X ZY σ H s):∀x c,X.env.cells.lookup x=Wb c->c≠X.env.locals:=λx c e z=>by obtain⟨v,o,ho,hd⟩:=I.cell x c e;obtain⟨m,⟨o',es,ep,ho',hd',_⟩,_⟩:=I.loc;rw[z,ho']at ho;cases ho;rw[hd']at hd;cases hd
theorem Inv.funs(I:Inv X ZY σ H s):s.heap.FunFrames X.base X.outer:=by
 have all:∀(l:List Env),(∀b∈Az l,b∈X.fs)->X.s₀.heap.FunFrames X.base l->s.heap.FunFrames X.base l:=by
  intro l;induction l with
  |nil=>intro _ _;trivial
  |cons env r ih =>intro hs hl;obtain⟨hk,⟨L,o,hf,hn,ho,hd⟩,hr⟩:=hl;have hL:L∈X.fs:=hs L (by unfold Az;rw[List.filterMap_cons,hf];exact Y5);obtain⟨sl,e⟩:=I.base.slot L o ho (I.ok.frf L hL) hL λz=>I.ok.exfs L z hL;exact⟨hk,⟨L,_,hf,hn,e,hd⟩,ih (λb hb=>hs b (by unfold Az;rw[List.filterMap_cons,hf];exact Y8 _ hb)) hr⟩
 exact all X.outer (λx hb=>hb) I.ok.funs
theorem Inv.stack(I:Inv X ZY σ H s):s.heap.FunFrames X.base X.stack:=by
 rcases I.ok.stk with e|⟨e,hf⟩
 ·rw[e];exact I.funs
 ·rw[e];obtain⟨m,hn,_⟩:=I.loc;refine .cons (by rw[I.ok.kind];decide) hf hn ?_ I.funs;exact Heap.get?_none_of_le<|aO I.ok.bsz I.ok.above
theorem Inv.stkSub(I:Inv X ZY σ H s):∀b∈Az X.stack,b∈X.env.locals ::X.fs:=λb hb=>by
 rcases I.ok.stk with e|⟨e,hf⟩
 ·rw[e]at hb;exact Y8 _ hb
 ·rw[e]at hb;unfold Az at hb;rw[List.filterMap_cons,hf]at hb;exact hb
theorem Inv.stkFree(I:Inv X ZY σ H s):∀b∈Az X.stack,H b=Wc:=λb hb=>by
 rcases Y1.mp (I.stkSub b hb) with e|hb
 ·rw[e];exact I.free
 ·obtain⟨_,o,ho,_⟩:=I.ok.funs.mem hb;exact I.base.free b o ho (I.ok.frf b hb) λz=>I.ok.exfs b z hb
theorem Inv.step{ch:Zy}(I:Inv X ZY σ H s)(hch:∀b∈ch,(b∈X.ex\/X.s₀.heap.objs.size<=b)/\b≠X.env.locals/\(∀x c,X.env.cells.lookup x=Wb c->c≠b)/\∀p∈X.pn++ZY,p.1≠b)(keep:∀b o,b≠X.env.locals->b∉X.fs->b∉ch->s.heap.get? b=Wb o->H b=Wc->h'.get? b=Wb o)(slot:∀b o,b≠X.env.locals->b∈X.fs->b∉ch->s.heap.get? b=Wb o->H b=Wc->∃sl,h'.get? b=Wb {o with slots:=sl})(free:∀b o,b∉ch->s.heap.get? b=Wb o->H b=Wc->H' b=Wc)(there:∀b o,b∉ch->s.heap.get? b=Wb o->∃o',h'.get? b=Wb o')(tups:∀b xs,H b=Wb (.tup xs)->H' b=Wb (.tup xs))(frzs:∀b o u,H b=Wb (.frz o u)->H' b=Wb (.frz o u))(tbls:∀b ps,H b=Wb (.tbl ps)->∃more,H' b=Wb (.tbl<|ps++more))(ns:∀m,s.heap.Ns X.env.locals m->h'.Ns X.env.locals m)(hok:l7 X.prog X.w H' h')(hg:VI g'):
  Inv X ZY σ H' {s with heap:=h',gens:=g',drawn:=d',toks:=t'}:=by
 have neL:∀b o,X.s₀.heap.get? b=Wb o->b≠X.env.locals:=λb o e=>eP<|cW (Y4 e) I.ok.above;have neC:∀b o,X.s₀.heap.get? b=Wb o->b∉X.ex->b∉ch:=λb o e hx hb=>by
  rcases(hch b hb).1 with z|z
  ·exact hx z
  ·exact VR (cW (Y4 e) z)<|Q0 _
 have cellK:∀x c,X.env.cells.lookup x=Wb c->∀v,s.heap.IsCell c v->h'.IsCell c v:=λx c e v ⟨o,ho,hd⟩=>by
  have nch:c∉ch:=λz=>(hch c z).2.2.1 x c e rfl;by_cases hc:c∈X.fs
  ·obtain⟨sl,q⟩:=slot c o (I.cne x c e) hc nch ho<|I.freeC x c e;exact⟨_,q,hd⟩
  ·exact⟨o,keep c o (I.cne x c e) hc nch ho<|I.freeC x c e,hd⟩
 refine⟨I.ok,I.os,hg,⟨λb o e n hb hx=>?_,λb o e n hb hx=>?_,λb o e n hx=>?_,λb o e hx=>?_,λb xs e=>tups b xs<|I.base.tups b xs e,λb o xs e=>frzs b o xs<|I.base.frzs b o xs e,λb ps e=>?_⟩,?_,λx c e=>?_,?_,λx c e=>?_,λp hp=>?_,hok,I.len⟩
 ·exact keep b o (neL b o e) hb (neC b o e hx) (I.base.keep b o e n hb hx)<|I.base.free b o e n hx
 ·obtain⟨sl,e1⟩:=I.base.slot b o e n hb hx;obtain⟨sl',e2⟩:=slot b _ (neL b o e) hb (neC b o e hx) e1<|I.base.free b o e n hx;exact⟨sl',e2⟩
 ·obtain⟨o',e1⟩:=I.base.there b o e hx;exact free b o' (neC b o e hx) e1<|I.base.free b o e n hx
 ·obtain⟨o',e1⟩:=I.base.there b o e hx;exact there b o' (neC b o e hx) e1
 ·obtain⟨m1,e1⟩:=I.base.tbls b ps e;obtain⟨m2,e2⟩:=tbls b _ e1;exact⟨m1++m2,by rw[e2,Array.append_assoc]⟩
 ·obtain⟨m,hn,hl⟩:=I.loc;refine⟨m,ns m hn,λi x v e1 e2 e3=>?_⟩;obtain⟨u,r,l⟩:=hl i x v e1 e2 e3;refine⟨u,r,?_⟩;rcases l with l|⟨k,c,e,z⟩
  ·exact .inl l
  ·exact .inr ⟨k,c,e,cellK x c e _ z⟩
 ·obtain⟨v,z⟩:=I.cell x c e;exact⟨v,cellK x c e v z⟩
 ·obtain⟨m,⟨o,_,_,ho,_⟩,_⟩:=I.loc;exact free _ o (λz=>(hch _ z).2.1 rfl) ho I.free
 ·obtain⟨v,o,ho,hd⟩:=I.cell x c e;exact free c o (λz=>(hch c z).2.2.1 x c e rfl) ho<|I.freeC x c e
 ·obtain⟨e,n,ne,nf,d⟩:=I.pin p hp;have nch:p.1∉ch:=λz=>(hch p.1 z).2.2.2 p hp rfl;exact⟨keep p.1 p.2 ne nf nch e n,free p.1 p.2 nch e n,ne,nf,d⟩
theorem Inv.un(I:Inv X ZY σ H s)(u:Un X.fs [] H H' s.heap h')(hok:l7 X.prog X.w H' h'):Inv X ZY σ H' {s with heap:=h',toks:=t'}:=by
 obtain⟨m,⟨o,es,ep,ho,r⟩,_⟩:=id I.loc;obtain⟨sl,hL⟩:=u.any ho I.free (by simp);exact I.step (g':=s.gens) (d':=s.drawn) (ch:=[]) (λx z=>nomatch z) (λb o x hb x e n=>u.keep b o e n hb (by simp)) (λb o x hb x e n=>u.slot b o e n hb (by simp)) (λb o x e n=>u.free b o e n (by simp)) (λb o x e=>u.there b o e (by simp)) u.tups u.frzs u.tbls (λm' hm=>by obtain⟨o',es',ep',ho',r'⟩:=hm;rw[ho]at ho';cases ho';exact⟨_,es',ep',hL,r'⟩) hok I.bare
theorem Inv.call(I:Inv X ZY σ H s)(u:Un (Az X.stack) ch H H' s.heap h')(hok:l7 X.prog X.w H' h')(hg:VI g')(hch:∀b∈ch,(b∈X.ex\/X.s₀.heap.objs.size<=b)/\b≠X.env.locals/\(∀x c,X.env.cells.lookup x=Wb c->c≠b)/\∀p∈X.pn++ZY,p.1≠b):
  Inv X ZY σ H' {s with heap:=h',gens:=g',drawn:=d',toks:=t'}:=by
 obtain⟨m,⟨o,es,ep,ho,r⟩,_⟩:=id I.loc;obtain⟨sl,hL⟩:=u.any ho I.free λz=>(hch _ z).2.1 rfl;exact I.step (ch:=ch) hch (λb o hL hb hc e n=>u.keep b o e n (λz=>(Y1.mp<|I.stkSub b z).elim hL hb) hc) (λb o a a hc e n=>u.any e n hc) (λb o hc e n=>u.free b o e n hc) (λb o hc e=>u.there b o e hc) u.tups u.frzs u.tbls (λm' hm=>by obtain⟨o',es',ep',ho',r'⟩:=hm;rw[ho]at ho';cases ho';exact⟨_,es',ep',hL,r'⟩) hok hg
theorem Inv.turned(I:Inv X ZY σ H s)(k:∀b o,b≠it->s.heap.get? b=Wb o->h'.get? b=Wb o)(hn:H it=Wc)(hL:it≠X.env.locals)(h1:it∈X.ex\/X.s₀.heap.objs.size<=it)(h2:∀x c,X.env.cells.lookup x=Wb c->c≠it)(h3:∀p∈X.pn++ZY,p.1≠it):Inv X ZY σ H {s with heap:=h',toks:=t'}:=by
 have nit:∀b u,H b=Wb u->b≠it:=λb u e z=>by rw[z,hn]at e;cases e
 refine I.step (g':=s.gens) (d':=s.drawn) (ch:=[it]) (λb hb=>?_) (λb o a a hc e a=>k b o (λz=>hc (by simp[z])) e) (λb o a a hc e a=>⟨o.slots,k b o (λz=>hc (by simp[z])) e⟩) (λa a a a n=>n)
  (λb o hc e=>⟨o,k b o (λz=>hc (by simp[z])) e⟩) (λa a e=>e) (λa a a e=>e) (λb ps e=>⟨#[],by rw[e];simp⟩) (λm hm=>?_) (λb u e=>?_) I.bare
 ·have e:b=it:=by simpa using hb
  subst e;exact⟨h1,hL,h2,h3⟩
 ·obtain⟨o,es,ep,ho,r⟩:=hm;exact⟨o,es,ep,k _ o (V8 hL) ho,r⟩
 ·refine(I.hok b u e).stay (λc v hc q=>k c v ?_ q) (λa q=>q) λa a q=>q;rcases hc with z|z
  ·rw[z];exact nit b u e
  ·exact nit c _ z
theorem Inv.tok(I:Inv X ZY σ H s)(t:Nat):Inv X ZY σ H {s with toks:=t}:=I.un (h':=s.heap) (t':=t) Un.refl I.hok
theorem Inv.kept(I:Inv X ZY σ H s)(k:∀b u,s.heap.get? b=Wb u->h'.get? b=Wb u):Inv X ZY σ H {s with heap:=h',toks:=t'}:=I.un (Un.kept k)<|I.hok.kept k
theorem Inv.laid{a:Wy}(I:Inv X ZY σ H s)(k:∀b u,s.heap.get? b=Wb u->h'.get? b=Wb u)(hp:s.heap.objs.size<=a)(new:bA X.prog X.w (aB H a o) h' a o):
  Inv X ZY σ (aB H a o) {s with heap:=h',toks:=t'}:=I.un (Un.laid k hp<|I.hok.fresh hp)<|I.hok.laid k hp new
theorem Inv.write(I:Inv X ZY σ H s)(mu:Mut (H x))(he:e=x\/H e=Wb (.own x))(k:∀b u,b≠e->s.heap.get? b=Wb u->h'.get? b=Wb u)(heo:∃u,h'.get? e=Wb u)(new:bA X.prog X.w (aB H x o) h' x o):Inv X ZY σ (aB H x o) {s with heap:=h',toks:=t'}:=I.un (Un.write mu he k heo)<|I.hok.write mu he k heo new
theorem Inv.weak(I:Inv X ZY σ H s)(hl:σ'.length=σ.length)(w:∀(i:Nat) v,σ'[i]?=Wb (Wb v)->σ[i]?=Wb (Wb v)):Inv X ZY σ' H s :=
 ⟨I.ok,I.os,I.bare,I.base,bN I.loc λm hn hl'=>⟨m,hn,λi x v e1 e2 e3=>hl' i x v e1 (w i v e2) e3⟩,I.cell,I.free,I.freeC,I.pin,I.hok,hl.trans I.len⟩
theorem Inv.pins_of(I:Inv X ZY σ H s)(h:∀p∈pins',s.heap.get? p.1=Wb p.2/\H p.1=Wc/\p.1≠X.env.locals/\p.1∉X.fs/\∀v,p.2.data≠.cell v):Inv X pins' σ H s :=
 ⟨I.ok,I.os,I.bare,I.base,I.loc,I.cell,I.free,I.freeC,λp hp=>(Y9.mp hp).elim (λz=>I.pin p<|X8 _ z) (h p),I.hok,I.len⟩
theorem u6{N:ZL}(hN:N.Nodup){i j:Nat}(a:N[i]?=Wb x)(b:N[j]?=Wb x):i=j:=by obtain⟨h1,e1⟩:=Z6.mp a;obtain⟨h2,e2⟩:=Z6.mp b;exact(List.getElem_inj hN).mp (e1.trans e2.symm)
theorem qS{M:Model}{A:WE}{E:ZU}{i:Nat}{x:Str}{v:V}{u:Wx}{Q:Unit->Ww->Prop}(I:Inv X ZY σ H s)(hN:X.N.Nodup)(hi:X.N[i]?=Wb x)(hx:Loc X.env.scope x)(r:RelV v u)(h:∀s',Inv X ZY (σ.set i<|some v) H s'->(∃a,S8 a s.heap s'.heap/\(a=X.env.locals\/X.env.cells.lookup x=Wb a))->Q () s')(hf:X.fn x=Wd\/X.env.scope.names.lookup x=Wb .local:=by first|exact .inl rfl|exact .inr rfl|assumption):Wz M A (storeName X.env x u) Q E s:=by
 obtain⟨m,hn,hl⟩:=id I.loc;have hcls:(X.env.scope.kind==.class || (X.env.scope.kind==.module&&X.env.locals != X.env.globals))=We:=by rw[I.ok.kind];rfl
 have hiσ:i<σ.length:=by rw[I.len];exact(Z6.mp hi).1
 have cne:=I.cne;have tracked:∀{a:Wy} {h':WD},(∃o,s.heap.get? a=Wb o/\H a=Wc)->S8 a s.heap h'->l7 X.prog X.w H h':=λ{a h'} ha hs b ob e=>by
  obtain⟨_,_,hfree⟩:=ha;refine(I.hok b ob e).stay (λc w' hc q=>(hs.2 c ?_).trans q) (λt q=>q) λt t q=>q;rintro rfl;rcases hc with rfl|hc
  ·rw[hfree]at e;cases e
  ·rw[hfree]at hc;cases hc
 rcases hx with hk|hk
 ·refine wpAny_storeName_local hk hn (λh' hn' hs=>?_) hcls;obtain⟨oL,_,_,hoL,_⟩:=id hn;refine h _ ⟨I.ok,I.os,I.bare,⟨λb o e n hb hx=>?_,λb o e n hb hx=>?_,I.base.free,λb o e hx=>?_,I.base.tups,I.base.frzs,I.base.tbls⟩,⟨_,hn',λj y v' e1 e2 e3=>?_⟩,λy c e=>?_,I.free,I.freeC,λp hp=>?_,tracked ⟨oL,hoL,I.free⟩ hs,by simpa using I.len⟩ ⟨_,hs,.inl rfl⟩
  ·exact(hs.2 b<|eP<|cW (Y4 e) I.ok.above).trans (I.base.keep b o e n hb hx)
  ·obtain⟨sl,e1⟩:=I.base.slot b o e n hb hx;exact⟨sl,(hs.2 b<|eP<|cW (Y4 e) I.ok.above).trans e1⟩
  ·obtain⟨o',e1⟩:=I.base.there b o e hx;exact⟨o',(hs.2 b<|eP<|cW (Y4 e) I.ok.above).trans e1⟩
  ·by_cases hj:j=i
   ·subst hj;rw[hi]at e1;cases e1;rw[N5 hiσ]at e2;cases e2;exact⟨u,r,.inl ⟨hk,by simp⟩⟩
   ·rw[P9 (V8 hj)]at e2;obtain⟨u',r',q⟩:=hl j y v' e1 e2 e3;refine⟨u',r',?_⟩;rcases q with ⟨k,e⟩|⟨k,c,e,z⟩
    ·refine .inl ⟨k,?_⟩;have:y≠x:=λe=>hj<|u6 hN e1<|e▸hi;simp[this,e]
    ·exact .inr ⟨k,c,e,z.sameBut hs<|cne y c e⟩
  ·obtain⟨w',z⟩:=I.cell y c e;exact⟨w',z.sameBut hs<|cne y c e⟩
  ·obtain⟨e,n,ne,nf,d⟩:=I.pin p hp;exact⟨(hs.2 p.1 ne).trans e,n,ne,nf,d⟩
 ·have hfn:X.fn x=Wd:=by
   rcases hf with z|z
   ·exact z
   ·rw[z]at hk;cases hk
  obtain⟨c,hc⟩:=I.ok.has x<|.inl hk;obtain⟨w',z⟩:=I.cell x c hc;refine wpAny_storeName_cell I.ok.kind hk hc z λh' hc' hs=>?_;obtain⟨oc,hoc,hocd⟩:=id z;refine h {s with heap:=h'} ⟨I.ok,I.os,I.bare,⟨λb o e n hb hx=>?_,λb o e n hb hx=>?_,I.base.free,λb o e hx=>?_,I.base.tups,I.base.frzs,I.base.tbls⟩,⟨m,hn.sameBut hs<|V8<|cne x c hc,λj y v' e1 e2 e3=>?_⟩,λy c' e=>?_,I.free,I.freeC,λp hp=>?_,tracked ⟨oc,hoc,I.freeC x c hc⟩ hs,by simpa using I.len⟩ ⟨c,hs,.inr hc⟩
  ·exact(hs.2 b<|eP<|cW (Y4 e)<|I.ok.cab x c hfn hc).trans (I.base.keep b o e n hb hx)
  ·obtain⟨sl,e1⟩:=I.base.slot b o e n hb hx;exact⟨sl,(hs.2 b<|eP<|cW (Y4 e)<|I.ok.cab x c hfn hc).trans e1⟩
  ·obtain⟨o',e1⟩:=I.base.there b o e hx;exact⟨o',(hs.2 b<|eP<|cW (Y4 e)<|I.ok.cab x c hfn hc).trans e1⟩
  ·by_cases hj:j=i
   ·subst hj;rw[hi]at e1;cases e1;rw[N5 hiσ]at e2;cases e2;exact⟨u,r,.inr ⟨.inl hk,c,hc,hc'⟩⟩
   ·rw[P9 (V8 hj)]at e2;obtain⟨u',r',q⟩:=hl j y v' e1 e2 e3;refine⟨u',r',?_⟩;rcases q with q|⟨k,c',e,z'⟩
    ·exact .inl q
    ·refine .inr ⟨k,c',e,z'.sameBut hs ?_⟩;rintro rfl;exact hj<|u6 hN e1<|I.ok.inj _ _ _ e hc▸hi
  ·by_cases hcc:c'=c
   ·subst hcc;exact⟨_,hc'⟩
   ·obtain⟨w2,z2⟩:=I.cell y c' e;exact⟨w2,z2.sameBut hs hcc⟩
  ·obtain⟨e,n,ne,nf,d⟩:=I.pin p hp;refine⟨(hs.2 p.1 ?_).trans e,n,ne,nf,d⟩;intro q;rw[q,hoc]at e;have q':oc=p.2:=Z4 e;exact d w' (by rw[<- q'];exact hocd)
theorem gY{M:Model}{A:WE}{E:ZU}{i:Nat}{x:Str}{v:V}{u:Wx}{Q:Unit->Ww->Prop}(I:Inv X ZY σ H s)(hN:X.N.Nodup)(hi:X.N[i]?=Wb x)(hx:Loc X.env.scope x)(r:RelV v u)(h:∀s',Inv X ZY (σ.set i<|some v) H s'->Q () s')(hf:X.fn x=Wd\/X.env.scope.names.lookup x=Wb .local:=by first|exact .inl rfl|exact .inr rfl|assumption):Wz M A (storeName X.env x u) Q E s :=
 qS I hN hi hx r (λs' I' a=>h s' I') hf
theorem Inv.call'(I:Inv X ZY σ H s)(ho:s'.os=s.os)(u:Un (Az X.stack) ch H H' s.heap s'.heap)(hok:l7 X.prog X.w H' s'.heap)(hg:VI s'.gens)(hch:∀b∈ch,(b∈X.ex\/X.s₀.heap.objs.size<=b)/\b≠X.env.locals/\(∀x c,X.env.cells.lookup x=Wb c->c≠b)/\∀p∈X.pn++ZY,p.1≠b):Inv X ZY σ H' s':=by obtain⟨h',g',d',t',o'⟩:=s';have e:o'=s.os:=ho;subst e;exact I.call (g':=g') (t':=t') (d':=d') u hok hg hch
end
abbrev XK:=Wx->Option Wy->Hp->Prop
abbrev St:=List<|Option V
abbrev VK:=V->Hp->Prop
abbrev TE:=St->Hp->VK->Prop
abbrev TT:=St->Hp->(Bool->Hp->Prop)->Prop
abbrev TA:=St->Hp->(List V->Hp->Prop)->Prop
structure Ends where
 nx:St->Hp->Prop
 rt:VK
 bk:St->Hp->Prop:=λx x=>False
 ct:St->Hp->Prop:=λx x=>False
abbrev TS:=Ends->St->Hp->Prop
def EP(X:Cx)(ZY:ZN)(σ:St)(Q:VK)(u:Wx)(s':Ww):Prop:=∃v H',Inv X ZY σ H' s'/\RelV v u/\Q v H'
def TP(X:Cx)(ZY:ZN)(σ:St)(Q:Bool->Hp->Prop)(b:Bool)(s':Ww):Prop:=∃H',Inv X ZY σ H' s'/\Q b H'
def AP(X:Cx)(ZY:ZN)(σ:St)(Q:List V->Hp->Prop)(us:ZO)(s':Ww):Prop:=∃vs H',Inv X ZY σ H' s'/\aS vs us/\Q vs H'
def SP(X:Cx)(ZY:ZN)(D:Ends)(f:Flow)(s':Ww):Prop :=
 match f with
 |.next=>∃σ' H',Inv X ZY σ' H' s'/\D.nx σ' H'
 |.brk=>∃σ' H',Inv X ZY σ' H' s'/\D.bk σ' H'
 |.cont=>∃σ' H',Inv X ZY σ' H' s'/\D.ct σ' H'
 |.ret u=>∃v σ' H',Inv X ZY σ' H' s'/\RelV v u/\D.rt v H'
def PE(X:Cx)(e:WC)(t:TE):Prop :=
 ∀(ZY:ZN) (s:Ww) (σ:St) (H:Hp) (Q:VK),Inv X ZY σ H s->t σ H Q->Wz (WA X.prog X.w) X.A (WF e X.env) (EP X ZY σ Q) X.xe s
def PT(X:Cx)(e:WC)(t:TT):Prop :=
 ∀(ZY:ZN) (s:Ww) (σ:St) (H:Hp) (Q:Bool->Hp->Prop),Inv X ZY σ H s->t σ H Q->Wz (WA X.prog X.w) X.A (isTrue e X.env<|WF e X.env) (TP X ZY σ Q) X.xe s
def PW(X:Cx)(e:WC)(t:TT):Prop :=
 ∀(whole:Sem Wx) (ZY:ZN) (s:Ww) (σ:St) (H:Hp) (Q:Bool->Hp->Prop),Inv X ZY σ H s->t σ H Q->Wz (WA X.prog X.w) X.A (isTrue e X.env whole) (TP X ZY σ Q) X.xe s
def PW.pt(h:PW X e t):PT X e t:=h _
def PA(X:Cx)(es:List WC)(t:TA):Prop :=
 ∀(pos:Pos) (ZY:ZN) (s:Ww) (σ:St) (H:Hp) (Q:List V->Hp->Prop),Inv X ZY σ H s->t σ H Q->Wz (WA X.prog X.w) X.A (spliced<|WI pos<|X5 es X.env) (AP X ZY σ Q) X.xe s
def PS(X:Cx)(st:WH)(t:TS):Prop :=
 ∀(ZY:ZN) (s:Ww) (σ:St) (H:Hp) (D:Ends),Inv X ZY σ H s->t D σ H->Wz (WA X.prog X.w) X.A (exec st X.env) (SP X ZY D) X.xe s
def nQ(X:Cx)(st:List WH)(t:TS):Prop :=
 ∀(ZY:ZN) (s:Ww) (σ:St) (H:Hp) (D:Ends),Inv X ZY σ H s->t D σ H->Wz (WA X.prog X.w) X.A (execs st X.env) (SP X ZY D) X.xe s
def bI{α:Type}{t:Sem α}{Q Q':α->Ww->Prop}{E:ZU}(h:Wz M A t Q E s)(hQ:∀a s,Q a s->Q' a s):Wz M A t Q' E s:=T8 h hQ λb b x=>x
section
variable {X:Cx}
def bf(i:Nat):TE:=λσ H Q=>∃v,σ[i]?=Wb (Wb v)/\Q v H
def tC(v:V):TE:=λx H Q=>Q v H
def pe_var{i:Nat}{x:Str}{pos:Pos}(hN:X.N[i]?=Wb x)(hv:Vis X.env.scope x)(hd:autoParam ((x==("__debug__":Str))=We) gR._auto_1)(hcd:autoParam ((x==("__classdict__":Str))=We) gR._auto_1):PE X (.Name x pos) (bf i):=by
 intro ZY s σ H Q I h;obtain⟨v,e,h⟩:=h;obtain⟨m,hn,hl⟩:=I.loc;obtain⟨u,r,l⟩:=hl i x v hN e hv;have fin:EP X ZY σ Q u s:=⟨v,H,I,r,h⟩;rcases l with ⟨hk,hm⟩|⟨hk,c,hc,hcell⟩
 ·exact wpAny_Name (wpAny_loadName_local I.ok.kind hk hn hm fin) hd
 ·rcases hk with hk|hk
  ·exact wpAny_Name (wpAny_loadName_cell I.ok.kind hk hc hcell fin) hd
  ·exact wpAny_Name (wpAny_loadName_free I.ok.kind hk hc hcell fin hcd) hd
def aj{i j pos}:PE X (.Constant (.int i) j pos) (tC<|.int i):=λx x x H x I h=>wpAny_Constant_int ⟨.int i,H,I.tok _,⟨_,rfl⟩,h⟩
def gu{b j pos}:PE X (.Constant (.bool b) j pos) (tC<|.bl b):=λx x x H x I h=>Constant_bool ⟨.bl b,H,I,rfl,h⟩
def eC{j pos}:PE X (.Constant .none j pos) (tC .non):=λx x x H x I h=>Constant_none ⟨.non,H,I,rfl,h⟩
def Gl(X:Cx)(x:Str):Prop:=X.env.kindOf x=Wb .globalImplicit
def xN{E:ZU}{ZY:ZN}{s:Ww}{σ:St}{H:Hp}{x:Str}{u:Wx}{pos:Pos}{Q:ZU}(I:Inv X ZY σ H s)(hg:Gl X x)(hm:X.mg x=Wb u)(h:Q u s)(hd:autoParam ((x==("__debug__":Str))=We) gR._auto_1):Wz (WA X.prog X.w) X.A (WF (.Name x pos) X.env) Q E s :=
 Calls.Name_function_global I.ok.kind hg (Calls.loadGlobal_global (by rw[I.ok.glob];exact I.mod.glob.keeps I.bk) hm h) hd
def iq{E:ZU}{ZY:ZN}{s:Ww}{σ:St}{H:Hp}{x:Str}{u:Wx}{pos:Pos}{Q:ZU}(I:Inv X ZY σ H s)(hg:Gl X x)(hm:X.mg x=Wc)(hv:Q2 x=Wb u)(h:Q u s)(hn:autoParam (x≠"__name__") gR._auto_1)(hd:autoParam ((x==("__debug__":Str))=We) gR._auto_1):Wz (WA X.prog X.w) X.A (WF (.Name x pos) X.env) Q E s:=by obtain⟨mb,h1,h2⟩:=I.mod.blt;exact Calls.Name_function_global I.ok.kind hg (Calls.loadGlobal_builtin (by rw[I.ok.glob];exact I.mod.glob.keeps I.bk) hm (by rw[I.ok.blt];exact h1.keeps I.bk) ((h2 x hn).trans hv) h) hd
def jJ{x:Str}{v:V}{u:Wx}{pos:Pos}(hg:Gl X x)(hm:X.mg x=Wc)(hv:Q2 x=Wb u)(r:RelV v u)(hn:autoParam (x≠"__name__") gR._auto_1)(hd:autoParam ((x==("__debug__":Str))=We) gR._auto_1):PE X (.Name x pos) (tC v) :=
 λc c c H c I h=>iq I hg hm hv ⟨v,H,I,r,h⟩ hn hd
variable {a b:WC}{ta tb:TE}{pos:Pos}
def PC(X:Cx)(op:CmpOp)(a b:WC)(t:TE):Prop :=
 ∀(ZY:ZN) (s:Ww) (σ:St) (H:Hp) (Q:VK),Inv X ZY σ H s->t σ H Q ->
  Wz (WA X.prog X.w) X.A (WF a X.env) (λv s₁=>Wz (WA X.prog X.w) X.A (WF b X.env) (λu s₂=>Wz (WA X.prog X.w) X.A (R8 op v u) (EP X ZY σ Q) X.xe s₂) X.xe s₁) X.xe s
def tB(t:TE):TT:=λσ H Q=>t σ H λx H1=>∃c,x=.bl c/\Q c H1
def pe_cmp{op:CmpOp}{t:TE}(h:PC X op a b t)(h1:WR op b=We:=by first|exact nobehind _ (by decide) (by decide)|rfl):PE X (.Compare a [op] [b] pos) t:=λZY s σ H Q I hw=>wpAny_Compare1 (h ZY s σ H Q I hw) h1
def sf{op:CmpOp}{t:TE}(h:PC X op a b t)(h1:WR op b=We:=by first|exact nobehind _ (by decide) (by decide)|rfl):PT X (.Compare a [op] [b] pos) (tB t):=by intro ZY s σ H Q I hw;refine wpAny_isTrue_Compare1 (bI (h ZY s σ H _ I hw) λv s1 h1=>bI h1 λu s2 h2=>bI h2 λc s3 ⟨x,H1,I1,r1,q1⟩=>?_) h1;obtain⟨d,rfl,q⟩:=q1;cases r1;exact R9 ⟨H1,I1,q⟩
def cK{e:WC}{t:TE}(h:PE X e t)(he:autoParam (∀whole,isTrue e X.env whole=(do let v <- whole;Vk e.pos;WM [v] (truthy v))) a1q._auto_1):PT X e (tB t):=by intro ZY s σ H Q I hw;refine isTrue_plain (bI (h ZY s σ H _ I hw) λv s1 ⟨x,H1,I1,r1,q1⟩=>?_)<|he _;obtain⟨d,rfl,q⟩:=q1;cases r1;exact R9 ⟨H1,I1,q⟩
variable {tA tB':TT}{rest:List WC}
def tAnd(t u:TT):TT:=λσ H Q=>t σ H λc H1=>if c=Wd then u σ H1 Q else Q We H1
def tOr(t u:TT):TT:=λσ H Q=>t σ H λc H1=>if c=Wd then Q Wd H1 else u σ H1 Q
def tNot(t:TT):TT:=λσ H Q=>t σ H λc H1=>Q (!c) H1
def l8(ha:PT X a tA):PW X (.BoolOp .And [a] pos) tA:=by
 intro wh ZY s σ H Q I h;refine isTrue_and (bI (ha ZY s σ H Q I h) λc s1 e=>?_);cases c with
 |true=>exact isTrue_and_nil e
 |false=>exact e
def jm(ha:PT X a tA):PW X (.BoolOp .Or [a] pos) tA:=by
 intro wh ZY s σ H Q I h;refine isTrue_or (bI (ha ZY s σ H Q I h) λc s1 e=>?_);cases c with
 |false=>exact isTrue_or_nil e
 |true=>exact e
def mE(ha:PT X a tA)(hb:PW X (.BoolOp .And (b ::rest) pos) tB'):PW X (.BoolOp .And (a ::b ::rest) pos) (tAnd tA tB'):=by
 intro wh ZY s σ H Q I h;refine isTrue_and (bI (ha ZY s σ H _ I h) λc s1 ⟨H1,I1,q1⟩=>?_);cases c with
 |true=>exact hb wh ZY s1 σ H1 Q I1 q1
 |false=>exact⟨H1,I1,q1⟩
def kg(ha:PT X a tA)(hb:PW X (.BoolOp .Or (b ::rest) pos) tB'):PW X (.BoolOp .Or (a ::b ::rest) pos) (tOr tA tB'):=by
 intro wh ZY s σ H Q I h;refine isTrue_or (bI (ha ZY s σ H _ I h) λc s1 ⟨H1,I1,q1⟩=>?_);cases c with
 |true=>exact⟨H1,I1,q1⟩
 |false=>exact hb wh ZY s1 σ H1 Q I1 q1
def fg(ha:PT X a tA):PT X (.UnaryOp .Not a pos) (tNot tA):=by intro ZY s σ H Q I h;exact isTrue_not<|ha ZY s σ H (λc H1=>Q (!c) H1) I h
def AC(ta tb:TE):TE:=λσ H Q=>ta σ H λx H1=>∃c,x=.bl c/\if c=Wd then tb σ H1 Q else Q (.bl We) H1
def tOrV(ta tb:TE):TE:=λσ H Q=>ta σ H λx H1=>∃c,x=.bl c/\if c=Wd then Q (.bl Wd) H1 else tb σ H1 Q
def tNotV(ta:TE):TE:=λσ H Q=>ta σ H λx H1=>∃c,x=.bl c/\Q (.bl<|!c) H1
def sh{op}(h:PE X a t):PE X (.BoolOp op [a] pos) t:=λZY s σ H Q I hw=>BoolOp_one<|h ZY s σ H Q I hw
def sj(ha:PE X a ta)(hb:PE X (.BoolOp .And (b ::rest) pos) tb):PE X (.BoolOp .And (a ::b ::rest) pos) (AC ta tb):=by
 intro ZY s σ H Q I h;refine BoolOp_and (bI (ha ZY s σ H _ I h) λv s1 ⟨x,H1,I1,r1,q1⟩=>?_);obtain⟨c,rfl,q1⟩:=q1;cases r1;refine R9 ?_;cases c with
 |true=>exact hb ZY s1 σ H1 Q I1 q1
 |false=>exact⟨.bl We,H1,I1,rfl,q1⟩
def pe_or(ha:PE X a ta)(hb:PE X (.BoolOp .Or (b ::rest) pos) tb):PE X (.BoolOp .Or (a ::b ::rest) pos) (tOrV ta tb):=by
 intro ZY s σ H Q I h;refine BoolOp_or (bI (ha ZY s σ H _ I h) λv s1 ⟨x,H1,I1,r1,q1⟩=>?_);obtain⟨c,rfl,q1⟩:=q1;cases r1;refine R9 ?_;cases c with
 |false=>exact hb ZY s1 σ H1 Q I1 q1
 |true=>exact⟨.bl Wd,H1,I1,rfl,q1⟩
def pe_not(ha:PE X a ta):PE X (.UnaryOp .Not a pos) (tNotV ta):=by intro ZY s σ H Q I h;refine UnaryOp_ (bI (ha ZY s σ H _ I h) λv s1 ⟨x,H1,I1,r1,q1⟩=>?_);obtain⟨c,rfl,q1⟩:=q1;cases r1;exact not_of<|R9 ⟨.bl<|!c,H1,I1,rfl,q1⟩
def tIf(t:TT)(ta tb:TE):TE:=λσ H Q=>t σ H λc H1=>if c=Wd then ta σ H1 Q else tb σ H1 Q
def oJ(hc:PT X c tA)(ha:PE X a ta)(hb:PE X b tb):PE X (.IfExp c a b pos) (tIf tA ta tb):=by
 intro ZY s σ H Q I h;refine wpAny_IfExp (bI (hc ZY s σ H _ I h) λd s1 ⟨H1,I1,q1⟩=>?_);cases d with
 |true=>exact ha ZY s1 σ H1 Q I1 q1
 |false=>exact hb ZY s1 σ H1 Q I1 q1
end
def dj(K:Z1)(H:Hp)(a:Wy)(xs:List V):Prop :=
 Rd H a (.lst xs) \/
  ∃(o:Obj) (Wj:Zq) (n:Nat),K.lookup a=Wb o/\o.cls=.type "list"/\o.dict=Wc/\o.data=.seq Wj n/\Wj.size<=W0/\aS xs Wj.toList
def l9(K:Z1)(H:Hp)(a:Wy)(xs:List V):Prop :=
 Rd H a (.tup xs) \/
  ∃(o:Obj) (Wj:Zq) (n:Nat),K.lookup a=Wb o/\o.cls=.type "tuple"/\o.data=.seq Wj n/\Wj.size<=W0/\aS xs Wj.toList
def absV:Wx->Option V
 |.none=>Wb .non
 |.bool b=>Wb<|.bl b
 |.int i _=>Wb<|.int i
 |.str x _=>Wb<|.str x
 |.bytes b _=>Wb<|.byt b
 |.float b _=>Wb<|.flt b
 |.ref a=>Wb<|.ref a
 |.type n=>Wb<|.ty n
 |_=>Wc
def RelV.abs(r:RelV x u):absV u=Wb x:=by
 cases x with
 |non=>cases r;rfl
 |bl _=>cases r;rfl
 |int _=>obtain⟨t,rfl⟩:=r;rfl
 |str _=>obtain⟨t,rfl⟩:=r;rfl
 |byt _=>obtain⟨t,rfl⟩:=r;rfl
 |flt _=>obtain⟨t,rfl⟩:=r;rfl
 |ref _=>cases r;rfl
 |ty _=>cases r;rfl
def RelV.inj(r:RelV x u)(q:RelV y u):x=y:=Z4<|r.abs.symm.trans q.abs
def aS.inj:∀{xs ys:List V} {us:ZO},aS xs us->aS ys us->xs=ys:=λ{xs ys us} p q=>by
 induction p generalizing ys with
 |nil=>cases q;rfl
 |cons r t ih =>
  cases q with
  |cons r' t'=>rw[r.inj r',ih t']
section
variable {X:Cx}{ZY:ZN}{σ:St}{H:Hp}{s:Ww}{a:Wy}{xs ys:List V}
def dj.of{K:Z1}(h:H a=Wb (.lst xs)):dj K H a xs:=.inl<|.inl h
def l9.of{K:Z1}(h:H a=Wb (.tup xs)):l9 K H a xs:=.inl<|.inl h
def Inv.list(I:Inv X ZY σ H s)(h:dj X.K H a xs):∃Wj:List Wx,aS xs Wj/\PlainL s.heap a Wj.toArray/\xs.length<=W0:=by
 rcases h with h|⟨o,Wj,n,hk,hc,hd,hs,hz,r⟩
 ·obtain⟨z,Wj,n,r,e⟩:=h.ok I.hok;exact⟨Wj,r,⟨_,n,e,rfl,rfl,rfl⟩,z⟩
 ·refine⟨Wj.toList,r,⟨o,n,I.kIn a o hk,hc,hd,by simpa using hs⟩,?_⟩;have e:=r.length;simp only[V5]at e;lia
def Inv.tuple(I:Inv X ZY σ H s)(h:l9 X.K H a xs):∃Wj:List Wx,aS xs Wj/\IsTup s.heap a Wj.toArray/\xs.length<=W0:=by
 rcases h with h|⟨o,Wj,n,hk,hc,hs,hz,r⟩
 ·obtain⟨z,Wj,r,p⟩:=h.ok I.hok;exact⟨Wj,r,p,z⟩
 ·refine⟨Wj.toList,r,⟨o,I.kIn a o hk,hc,n,by simpa using hs⟩,?_⟩;have e:=r.length;simp only[V5]at e;omega
def Inv.list_inj(I:Inv X ZY σ H s)(h:dj X.K H a xs)(h':dj X.K H a ys):xs=ys:=by
 obtain⟨Wj,r,⟨o,n,e,_,_,d⟩,_⟩:=I.list h;obtain⟨its',r',⟨o',n',e',_,_,d'⟩,_⟩:=I.list h';rw[e]at e';cases e';rw[d]at d';injection d' with d1 _;have:Wj=its':=by simpa using congrArg Array.toList d1
 subst this;exact r.inj r'
end
abbrev Cx.wish(X:Cx)(E:ZU):Cx:={X with xe:=E}
abbrev Cx.nox(X:Cx):Cx:=X.wish λx x=>False
def Cx.Ok.wish{X:Cx}(ok:X.Ok)(E:ZU):(X.wish E).Ok :=
 ⟨ok.mod,ok.kind,ok.glob,ok.blt,ok.above,ok.inj,ok.has,ok.cab,ok.hd,ok.frames,ok.stk,ok.exf,ok.bs,ok.bsz,ok.noex,ok.exfs,ok.funs,ok.frf⟩
def Cx.Ok.unwish{X:Cx}{E:ZU}(ok:(X.wish E).Ok):X.Ok :=
 ⟨ok.mod,ok.kind,ok.glob,ok.blt,ok.above,ok.inj,ok.has,ok.cab,ok.hd,ok.frames,ok.stk,ok.exf,ok.bs,ok.bsz,ok.noex,ok.exfs,ok.funs,ok.frf⟩
section
variable {X:Cx}{ZY:ZN}{σ:St}{H:Hp}{s:Ww}{E:ZU}
def Inv.wish(I:Inv X ZY σ H s)(E:ZU):Inv (X.wish E) ZY σ H s:=⟨I.ok.wish E,I.os,I.bare,I.base,I.loc,I.cell,I.free,I.freeC,I.pin,I.hok,I.len⟩
def Inv.unwish(I:Inv (X.wish E) ZY σ H s):Inv X ZY σ H s:=⟨I.ok.unwish,I.os,I.bare,I.base,I.loc,I.cell,I.free,I.freeC,I.pin,I.hok,I.len⟩
def SP.unwish(h:SP (X.wish E) ZY D f s'):SP X ZY D f s':=by
 cases f with
 |next=>obtain⟨σ',H',I,q⟩:=h;exact⟨σ',H',I.unwish,q⟩
 |brk=>obtain⟨σ',H',I,q⟩:=h;exact⟨σ',H',I.unwish,q⟩
 |cont=>obtain⟨σ',H',I,q⟩:=h;exact⟨σ',H',I.unwish,q⟩
 |ret u=>obtain⟨v,σ',H',I,r,q⟩:=h;exact⟨v,σ',H',I.unwish,r,q⟩
def nQ.nox{st:List WH}(h:nQ X.nox st t):nQ X st t:=λZY s σ H D I hw =>
 T8 (h ZY s σ H D (I.wish _) hw) (λx x q=>q.unwish) λx x z=>O4 z
end
section
variable {X:Cx}{st:WH}{rest:List WH}{t u:TS}{e:WC}{te:TE}{pos:Pos}
def la:TS:=λD σ H=>D.nx σ H
def bC(t u:TS):TS:=λD σ H=>t {D with nx:=u D} σ H
def bc:nQ X [] la:=λx x σ H x I h=>Vh ⟨σ,H,I,h⟩
def a9(h1:PS X st t)(h2:nQ X rest u):nQ X (st ::rest) (bC t u):=by
 intro ZY s σ H D I h;refine wpAny_execs_cons (bI (h1 ZY s σ H {D with nx:=u D} I h) λf s1 q=>?_);cases f with
 |next =>obtain⟨σ',H',I',q⟩:=q;exact h2 ZY s1 σ' H' D I' q
 |ret v=>exact q
 |brk=>exact q
 |cont=>exact q
def ak(h1:PS X st t):nQ X [st] t:=by
 intro ZY s σ H D I h;refine wpAny_execs_cons (bI (h1 ZY s σ H D I h) λf s1 q=>?_);cases f with
 |next=>exact Vh q
 |ret v=>exact q
 |brk=>exact q
 |cont=>exact q
def xO:TS:=λD σ H=>D.ct σ H
def u7:PS X (.Continue pos) xO:=λx x σ H x I h=>wpAny_Continue ⟨σ,H,I,h⟩
def Inv.quiet{σ:St}(I:Inv X ZY σ H s):interactive X.env=We:=by simp[interactive,I.ok.kind]
def nk(te:TE):TS:=λD σ H=>te σ H λx H1=>D.nx σ H1
def cZ(he:PE X e te)(hs:autoParam (Vt e Wc pos.line X.env=pure We) cV._auto_1):PS X (.Expr e pos) (nk te):=by intro ZY s σ H D I h;exact wpAny_Expr_any (bI (he ZY s σ H _ I h) λv s1 ⟨x,H1,I1,r1,q1⟩=>⟨σ,H1,I1,q1⟩) I.quiet hs
def lg(te:TE):TS:=λD σ H=>te σ H D.rt
def aC(he:PE X e te):PS X (.Return (Wb e) pos) (lg te):=by intro ZY s σ H D I h;exact wpAny_Return_some (bI (he ZY s σ H _ I h) λv s1 ⟨x,H1,I1,r1,q1⟩=>⟨x,σ,H1,I1,r1,q1⟩)
def tIfS(c:TT)(t u:TS):TS:=λD σ H=>c σ H λb H1=>if b=Wd then t D σ H1 else u D σ H1
def cC(hc:PT X c tc)(ha:nQ X a t)(hb:nQ X b u):PS X (.If c a b pos) (tIfS tc t u):=by
 intro ZY s σ H D I h;refine wpAny_If (bI (hc ZY s σ H _ I h) λd s1 ⟨H1,I1,q1⟩=>?_);cases d with
 |true=>exact ha ZY s1 σ H1 D I1 q1
 |false=>exact hb ZY s1 σ H1 D I1 q1
end
abbrev TG:=V->St->Hp->(St->Hp->Prop)->Prop
abbrev TGs:=List V->St->Hp->(St->Hp->Prop)->Prop
def PG(X:Cx)(target:WC)(t:TG):Prop :=
 ∀(ZY:ZN) (s:Ww) (σ:St) (H:Hp) (v:V) (u:Wx) (Q:St->Hp->Prop),Inv X ZY σ H s->RelV v u->t v σ H Q ->
  Wz (WA X.prog X.w) X.A (assign target X.env u) (λx s'=>∃σ' H',Inv X ZY σ' H' s'/\Q σ' H') X.xe s
def PGs(X:Cx)(ts:List WC)(t:TGs):Prop :=
 ∀(ZY:ZN) (s:Ww) (σ:St) (H:Hp) (vs:List V) (us:ZO) (Q:St->Hp->Prop),Inv X ZY σ H s->aS vs us->t vs σ H Q ->
  Wz (WA X.prog X.w) X.A (Vf ((WT ts X.env).map (·.2)) us) (λx s'=>∃σ' H',Inv X ZY σ' H' s'/\Q σ' H') X.xe s
abbrev TSet:=V->V->V->Hp->(Hp->Prop)->Prop
def PSet(X:Cx)(t:TSet):Prop :=
 ∀(ZY:ZN) (s:Ww) (σ:St) (H:Hp) (o i v:V) (ov iv u:Wx) (Q:Hp->Prop),Inv X ZY σ H s->RelV o ov->RelV i iv->RelV v u->t o i v H Q ->
  Wz (WA X.prog X.w) X.A (setItem ov iv u) (λx s'=>∃H',Inv X ZY σ H' s'/\Q H') X.xe s
section
variable {X:Cx}{pos:Pos}
def du(i:Nat):TG:=λv σ H Q=>Q (σ.set i<|some v) H
def pg_name{i:Nat}{x:Str}(hN:X.N.Nodup)(hi:X.N[i]?=Wb x)(hx:Loc X.env.scope x)(hf:X.fn x=Wd\/X.env.scope.names.lookup x=Wb .local:=by first|exact .inl rfl|exact .inr rfl|assumption):PG X (.Name x pos) (du i):=by intro ZY s σ H v u Q I r h;exact wpAny_assign_Name<|gY I hN hi hx r (λs' I'=>⟨_,H,I',h⟩) hf
def gNil:TGs:=λvs σ H Q=>vs=[]/\Q σ H
def AD(t:TG)(u:TGs):TGs:=λvs σ H Q=>∃v r,vs=v ::r/\t v σ H λσ' H'=>u r σ' H' Q
def lh:PGs X [] gNil:=by intro ZY s σ H vs us Q I r h;obtain⟨e,h⟩:=h;subst e;cases r;exact VJ ⟨σ,H,I,h⟩
def eE{e:WC}{es:List WC}{t:TG}{u:TGs}(h1:PG X e t)(h2:PGs X es u)(hs:autoParam ((WT (e ::es) X.env).map (·.2)=assign e X.env ::(WT es X.env).map (·.2)) cV._auto_1):PGs X (e ::es) (AD t u):=by
 intro ZY s σ H vs us Q I r h;obtain⟨v,vr,e1,h⟩:=h;subst e1;cases r with
 |cons r rr =>rw[hs];refine G1 (bI (h1 ZY s σ H _ _ _ I r h) λ_ s1 ⟨σ1,H1,I1,q1⟩=>?_);exact h2 ZY s1 σ1 H1 _ _ Q I1 rr q1
def gTup(K:Z1)(n:Nat)(t:TGs):TG:=λv σ H Q=>∃a xs,v=.ref a/\l9 K H a xs/\xs.length=n/\t xs σ H Q
def pg_tup{es:List WC}{k:Nat}{t:TGs}{n:Nat}(hc:X.calm=Wd)(h:PGs X es t)(hn:autoParam ((WT es X.env).length=n) cV._auto_1)(hst:autoParam ((WT es X.env).findIdx? (·.1)=Wc) cV._auto_1):PG X (.Tuple es k pos) (gTup X.K n t):=by intro ZY s σ H v u Q I r hw;obtain⟨a,xs,e1,hq,hl,hw⟩:=hw;subst e1;cases r;obtain⟨Wj,rv,ht,hz⟩:=I.tuple hq;refine assign_Tuple_tuple (I.ok.hd hc) ht (by simp[hn,<- hl,rv.length]) hst λh' hx=>?_;have I1:Inv X ZY σ H {s with heap:=h'}:=I.kept (t':=s.toks) λb o e=>hx b o (eP<|Y4 e) e;exact h ZY _ σ H xs _ Q I1 (by simpa using rv) hw
def gSub(to ti:TE)(t:TSet):TG:=λv σ H Q=>to σ H λo H1=>ti σ H1 λi H2=>t o i v H2 λH3=>Q σ H3
def kA{o i:WC}{to ti:TE}{t:TSet}(ho:PE X o to)(hi:PE X i ti)(hs:PSet X t)(ha:∀v,assign (.Subscript o i pos) X.env v=(do
   let ov <- WM [v] (WF o X.env)
   let iv <- WM [v,ov] (WF i X.env)
   Vk pos
   WM [v,ov,iv] (setItem ov iv v)
   release [v,ov,iv] []):=by intro _;rfl):PG X (.Subscript o i pos) (gSub to ti t):=by
 intro ZY s σ H v u Q I r h;rw[ha];refine Z0<|T7 (bI (ho ZY s σ H _ I h) λov s1 ⟨x,H1,I1,r1,q1⟩=>?_);refine Z0<|T7 (bI (hi ZY s1 σ H1 _ I1 q1) λiv s2 ⟨y,H2,I2,r2,q2⟩=>?_);refine Z0<|WJ<|Z0<|T7 (bI (hs ZY s2 σ H2 x y v ov iv u _ I2 r1 r2 r q2) λ_ s3 ⟨H3,I3,q3⟩=>?_);exact wpAny_release ⟨σ,H3,I3,q3⟩
def ie(te:TE)(g:TG):TS:=λD σ H=>te σ H λx H1=>g x σ H1 D.nx
def kB{tg e:WC}{te:TE}{g:TG}(he:PE X e te)(hg:PG X tg g)(hs:autoParam (swapsWithSole [tg] e pos.line X.env=pure We) cV._auto_1)(hw:autoParam (swappedStores [tg] e X.env=pure Wc) cV._auto_1)(h1:autoParam ((WT [tg] X.env).map (·.2)=[assign tg X.env]) cV._auto_1):PS X (.Assign [tg] e pos) (ie te g):=by intro ZY s σ H D I h;refine wpAny_Assign_stores (bI (he ZY s σ H _ I h) λv s1 ⟨x,H1,I1,r1,q1⟩=>?_) hs hw;rw[h1];exact bI (hg ZY s1 σ H1 x v _ I1 r1 q1) λa s2 q=>q
def AE{i:Nat}{x:Str}{e:WC}{te:TE}{Ws:Pos}(hN:X.N.Nodup)(hi:X.N[i]?=Wb x)(hx:Loc X.env.scope x)(he:PE X e te)(hs:autoParam (Vt e (Wb<|.Name x Ws) pos.line X.env=pure We) cV._auto_1)(hf:X.fn x=Wd\/X.env.scope.names.lookup x=Wb .local:=by first|exact .inl rfl|exact .inr rfl|assumption):
  PS X (.Assign [.Name x Ws] e pos) (ie te<|du i):=by
 intro ZY s σ H D I h;refine wpAny_Assign_Name (bI (he ZY s σ H _ I h) λv s1 ⟨y,H1,I1,r1,q1⟩=>?_) hs;exact gY I1 hN hi hx r1 (λs2 I2=>⟨_,H1,I2,q1⟩) hf
def tPar(i j:Nat)(ta:TA):TS:=λD σ H=>ta σ H λvs H1=>∃v w,vs=[v,w]/\D.nx ((σ.set i<|some v).set j (Wb w)) H1
def AF{i j:Nat}{x y:Str}{a b:WC}{ta:TA}{px py pt:Pos}{kt k2 pt2}(hc:X.calm=Wd)(hN:X.N.Nodup)(hi:X.N[i]?=Wb x)(hj:X.N[j]?=Wb y)(hij:i≠j)(hx:X.env.scope.names.lookup x=Wb .local)(hy:X.env.scope.names.lookup y=Wb .local)(ha:PA X [a,b] ta)(hw:swappedStores [.Tuple [.Name x px,.Name y py] kt pt] (.Tuple [a,b] k2 pt2) X.env=pure (Wb [x,y]))(hs:autoParam (swapsWithSole [.Tuple [.Name x px,.Name y py] kt pt] (.Tuple [a,b] k2 pt2) pos.line X.env=pure We) cV._auto_1):
  PS X (.Assign [.Tuple [.Name x px,.Name y py] kt pt] (.Tuple [a,b] k2 pt2) pos) (tPar i j ta):=by
 intro ZY s σ H D I h;rw[exec_Assign_arm];refine Z0<|WJ ?_;rw[hs];refine Z0<|Z8 ?_;rw[VQ (by decide)];refine Z0<|Tuple_ (bI (ha _ ZY s σ H _ I h) λus s1 ⟨vs,H1,I1,r1,q1⟩=>?_);obtain⟨v,w,e1,q1⟩:=q1;subst e1;obtain⟨u1,u2,rfl,rv,rw'⟩:∃u1 u2,us=[u1,u2]/\RelV v u1/\RelV w u2:=by
  cases r1 with
  |cons p q =>
   cases q with
   |cons p' q' =>cases q';exact⟨_,_,rfl,p,p'⟩
 refine O6 ?_ (by show 2<=W0;decide);have I2:Inv X ZY σ H1 {s1 with heap:=s1.heap.push {cls:=.type "tuple",data:=.seq [u1,u2].toArray}}:=I1.kept (t':=s1.toks) λb o e=>Z2 _ e;rw[hw];refine Z0<|Z8 ?_;show Wz (WA X.prog X.w) X.A (do rule "assign.swapped-stores";let items <- unpackItems (.ref s1.heap.objs.size) 2 Wc;Vf [λv=>WZ X.env y v,λv=>WZ X.env x v] items.reverse;pure Flow.next) _ _ _;refine Z0<|Vl<|Z0 (unpackItems_tuple (items:=#[u1,u2]) (I.ok.hd hc) (IsTup.new s1.heap _) λh' hx'=>?_);have I3:=I2.kept (h':=h') (t':=s1.toks) λb o e=>hx' b o (eP<|Y4 e) e;show Wz _ _ (Vf [λv=>WZ X.env y v,λv=>WZ X.env x v] [u2,u1] >>= λc=>pure Flow.next) _ _ _;refine Z0<|G1<|Va<|gY I3 hN hj (.inl hy) rw' (λs2 I4=>?_)<|.inr hy;refine G1<|Va<|gY I4 hN hi (.inl hx) rv (λs3 I5=>VJ<|Z8 ?_)<|.inr hx;rw[List.set_comm _ _ (V8 hij)]at I5;exact⟨_,H1,I5,q1⟩
end
section
variable {X:Cx}{pos:Pos}
def AG(c:TT)(tb:TS):TS:=λD σ H=>∃W:Nat->St->Hp->Prop,(∃m,W m σ H)/\∀m σ H,W m σ H ->
 c σ H λb H1=>if b=Wd then ∃N:St->Hp->Prop,(∀σ' H',N σ' H'->∃m',m'<m/\W m' σ' H')/\tb {D with nx:=N,ct:=N,bk:=D.nx} σ H1 else D.nx σ H1
def lu(hp:PassesOwn (WA X.prog X.w) X.A X.env X.xe)(hc:PT X c tc)(hb:nQ X body tb):PS X (.While c body [] pos) (AG tc tb):=by
 intro ZY s σ H D I h;obtain⟨W,⟨m0,w0⟩,turn⟩:=h;refine wpAny_While<|codeAny_whileLoop (λn s'=>∃σ' H',Inv X ZY σ' H' s'/\W n σ' H') ?_ m0 ⟨σ,H,I,w0⟩;rintro n s1 ⟨σ1,H1,I1,w1⟩;refine G8 hp (bI (hc ZY s1 σ1 H1 _ I1<|turn n σ1 H1 w1) λb s2 ⟨H2,I2,q2⟩=>?_);cases b with
 |true =>
  obtain⟨N,hN,q2⟩:=q2;rw[VP rfl];refine G8 hp (bI (hb ZY s2 σ1 H2 _ I2 q2) λf s3 q3=>?_);cases f with
  |next =>obtain⟨σ3,H3,I3,n3⟩:=q3;obtain⟨m',hm,w3⟩:=hN σ3 H3 n3;exact⟨m',hm,σ3,H3,I3,w3⟩
  |cont =>obtain⟨σ3,H3,I3,n3⟩:=q3;obtain⟨m',hm,w3⟩:=hN σ3 H3 n3;exact⟨m',hm,σ3,H3,I3,w3⟩
  |brk=>exact q3
  |ret v=>exact q3
 |false =>rw[VQ Z3];exact Vh ⟨σ1,H2,I2,q2⟩
end
structure It where
 go:Nat->Hp->Prop
 yld:Nat->Hp->V->Hp->Prop
 stop:Nat->Hp->Prop
def lw(X:Cx)(ZY:ZN)(H:Hp)(b:Wy):Prop :=
 H b=Wc/\b≠X.env.locals/\b∉X.fs/\(b∈X.ex\/X.s₀.heap.objs.size<=b)/\(∀x c,X.env.cells.lookup x=Wb c->c≠b)/\∀p∈X.pn++ZY,p.1≠b
def Inv.fpOk{σ:St}{b:Wy}(I:Inv X ZY σ H s)(hb:s.heap.objs.size<=b)(hn:H' b=Wc):lw X ZY H' b:=by
 refine⟨hn,O2<|cW I.lt hb,I.nofs hb,.inr<|aO I.sz hb,λx c e z=>?_,λp hp z=>?_⟩
 ·obtain⟨v,q⟩:=I.cell x c e;exact VR (cW q.lt (by rw[z];exact hb))<|Q0 _
 ·exact VR (cW (Y4 (I.pin p hp).1) (by rw[z];exact hb))<|Q0 _
structure Turn(P:W7)(w:WB)(K:Z1)(tg:WC)(J:It)(fp:Zy)(it:Wy)(tn:Nat->WD->Prop):Prop where
 mem:it∈fp
 obj:∀i h,tn i h->∀b∈fp,∃o,h.get? b=Wb o/\∀v,o.data≠.cell v
 keep:∀i h h',tn i h->(∀b∈fp,∀o,h.get? b=Wb o->h'.get? b=Wb o)->tn i h'
 item:∀(X:Cx),X.prog=P->X.w=w->X.K=K->X.calm=Wd->∀(i:Nat) (ZY:ZN) (s:Ww) (σ:St) (H:Hp) (E:ZU),Inv X ZY σ H s->(∀b∈fp,lw X ZY H b)->tn i s.heap->J.go i H ->
  Wz (WA P w) X.A (WU<|.ref it) (λr s1=>∃u,r=Wb u /\
   Wz (WA P w) X.A (Vi tg (.ref it) u) (λa s2=>∃x H',Inv X ZY σ H' s2/\RelV x u/\J.yld i H x H'/\tn (i+1) s2.heap/\∀b∈fp,H' b=Wc) E s1) E s
 done:∀(X:Cx),X.prog=P->X.w=w->X.K=K->X.calm=Wd->∀(i:Nat) (ZY:ZN) (s:Ww) (σ:St) (H:Hp) (E:ZU),Inv X ZY σ H s->(∀b∈fp,lw X ZY H b)->tn i s.heap->J.stop i H ->
  Wz (WA P w) X.A (WU<|.ref it) (λr s1=>r=Wc/\Inv X ZY σ H s1) E s
 self:∀(A:WE) (i:Nat) (s:Ww) (Q:ZU) (E:ZU),tn i s.heap->Q (.ref it) s->Wz (WA P w) A (pyIter<|.ref it) Q E s
abbrev TI:=St->Hp->(It->Hp->Prop)->Prop
def PIE(X:Cx)(ZY:ZN)(σ:St)(tg:WC)(R:It->Hp->Prop)(itv:Wx)(s2:Ww):Prop :=
 ∃(it:Wy) (fp:Zy) (tn:Nat->WD->Prop) (J:It) (H':Hp),itv=.ref it/\Inv X ZY σ H' s2/\Turn X.prog X.w X.K tg J fp it tn/\tn 0 s2.heap/\(∀b∈fp,lw X ZY H' b)/\R J H'
def PI(X:Cx)(tg iter:WC)(wi:TI):Prop :=
 ∀(ZY:ZN) (s:Ww) (σ:St) (H:Hp) (R:It->Hp->Prop),Inv X ZY σ H s->wi σ H R ->
  Wz (WA X.prog X.w) X.A (WF iter X.env) (λv s1=>Wz (WA X.prog X.w) X.A (pyIter v) (PIE X ZY σ tg R) X.xe s1) X.xe s
def AH{E:ZU}{Q:Unit->Ww->Prop}(ho:s.heap.get? it=Wb o)(hc:o.cls=.type n)(hd:o.data=.fields vs)(hn:["enumerate","zip","dict_itemiterator","dict_reverseitemiterator","odict_iterator","itertools.zip_longest","itertools.pairwise"].contains n=We)(hQ:Q () s):Wz M A (Vi tg (.ref it) u) Q E s:=by
  unfold Vi;cases tg<;>first
    |exact Z8 hQ
    | (cases u <;> first
        |exact Z8 hQ
        | (refine Z0 (wpAny_load ho ?_)
           rw[hc,hd];show Wz M A (if (["enumerate","zip","dict_itemiterator","dict_reverseitemiterator","odict_iterator","itertools.zip_longest","itertools.pairwise"].contains n&&vs[0]?==Wb (WG _))=Wd then _ else _) Q E s;rw[VQ (by intro h;rw[hn,Bool.false_and]at h;cases h)];exact Z8 hQ))
def Itl(K:Z1)(a:Wy):It :=
 ⟨λi H=>∃xs x,dj K H a xs/\xs[i]?=Wb x,λi H x H'=>H'=H/\∀xs,dj K H a xs->xs[i]?=Wb x,λi H=>∃xs,dj K H a xs/\xs.length<=i⟩
def Itr(lo:Int)(n:Nat):It:=⟨λi a=>i<n,λi H x H'=>H'=H/\x=.int (lo+i),λi a=>n<=i⟩
def z7{K:Z1}(a it:Wy):Turn P w K tg (Itl K a) [it] it (λi h=>h.IsListIter it a i) where
 mem:=by simp
 obj:=λi h st b hb=>by
  have e:b=it:=by simpa using hb
  subst e;obtain⟨o,e,c,d⟩:=st;exact⟨o,e,λv z=>by rw[d]at z;cases z⟩
 keep:=λi h h' st k=>st.at λo e=>k it (by simp) o e
 item:=by intro X hP hw hK hc i ZY s σ H E I hf st hg;subst hP hw hK;obtain⟨xs,x,hq,hx⟩:=hg;obtain⟨Wj,rv,p,hz⟩:=I.list hq;obtain⟨u,hu,ru⟩:=rv.get hx;obtain⟨f0,f1,f2,f3,f4,f5⟩:=hf it (by simp);refine wpAny_pyNext_list_item st p.isList (x:=u) (by simpa using hu) λh' st' sb=>?_;have I1:Inv X ZY σ H {s with heap:=h'}:=I.turned (t':=s.toks) (λb o hb e=>(sb.2 b hb).trans e) f0 f1 f3 f4 f5;obtain⟨o,e,c,d⟩:=id st';exact⟨u,rfl,AH (s:={s with heap:=h'}) e c d (by decide) ⟨x,H,I1,ru,⟨rfl,λys hy=>by rw[I.list_inj hy hq];exact hx⟩,st',λb hb=>(hf b hb).1⟩⟩
 done:=by intro X hP hw hK hc i ZY s σ H E I hf st hg;subst hP hw hK;obtain⟨xs,hq,hx⟩:=hg;obtain⟨Wj,rv,p,hz⟩:=I.list hq;obtain⟨f0,f1,f2,f3,f4,f5⟩:=hf it (by simp);have hl:=rv.length;exact wpAny_pyNext_list_end (I.ok.hd hc) st p.isList (by simp;lia) λh' eb=>⟨rfl,I.turned (t':=s.toks) (λb o hb e=>eb b o hb e) f0 f1 f3 f4 f5⟩
 self:=λy y y y y st h=>wpAny_pyIter_listiter st h
def w8{K:Z1}(it:Wy)(lo:Int)(n:Nat):Turn P w K tg (Itr lo n) [it] it (λi h=>IsRangeIter h it (lo+(i:Nat)*1) ((n:Int)-(i:Nat)) 1) where
 mem:=by simp
 obj:=λi h st b hb=>by
  have e:b=it:=by simpa using hb
  subst e;exact⟨_,st,λv z=>by have z':Data.fields _=Data.cell v:=z;cases z'⟩
 keep:=λi h h' st k=>k it (by simp) _ st
 item:=by intro X hP hw hK hc i ZY s σ H E I hf st hg;subst hP hw hK;obtain⟨f0,f1,f2,f3,f4,f5⟩:=hf it (by simp);have W:=Walks.range (prog:=X.prog) (w:=X.w) (I.ok.hd hc) it lo 1 n;refine W.item i s _ _ hg st λv h' tk hv st' kk=>?_;obtain⟨t,rfl⟩:=hv;have I1:Inv X ZY σ H {s with heap:=h',toks:=tk}:=I.turned (λb o hb e=>kk b o (by simpa using hb) e) f0 f1 f3 f4 f5;refine⟨_,rfl,AH (s:={s with heap:=h',toks:=tk}) (n:="range_iterator") st' rfl rfl (by decide) ⟨.int<|lo+i,H,I1,⟨t,?_⟩,⟨rfl,rfl⟩,st',λb hb=>(hf b hb).1⟩⟩;rw[Int.mul_one]
 done:=by intro X hP hw hK hc i ZY s σ H E I hf st hg;subst hP hw hK;obtain⟨f0,f1,f2,f3,f4,f5⟩:=hf it (by simp);exact wpAny_pyNext_range_end (I.ok.hd hc) st (by have:n<=i:=hg;lia) λh' eb=>⟨rfl,I.turned (t':=s.toks) (λb o hb e=>eb b o hb e) f0 f1 f3 f4 f5⟩
 self:=λx x x x x st h=>wpAny_pyIter_rangeiter st h
section
variable {X:Cx}{tg:WC}
def lz(K:Z1)(tl:TE):TI:=λσ H R=>tl σ H λx H1=>∃a,x=.ref a/\(∃xs,dj K H1 a xs)/\R (Itl K a) H1
def pi_list(hl:PE X l tl):PI X tg l (lz X.K tl):=by
 intro ZY s σ H R I h;refine bI (hl ZY s σ H _ I h) λv s1 ⟨x,H1,I1,r1,q1⟩=>?_;obtain⟨a,rfl,⟨xs,hq⟩,q⟩:=q1;cases r1;obtain⟨Wj,rv,p,hz⟩:=I1.list hq;refine Vb p.isList ?_;refine⟨s1.heap.objs.size,[s1.heap.objs.size],_,_,H1,rfl,I1.kept (t':=s1.toks) λb o e=>Z2 _ e,z7 a _,⟨_,Y7 _ rfl,rfl,rfl⟩,λb hb=>?_,q⟩;have e:b=s1.heap.objs.size:=by simpa using hb
 subst e;exact I1.fpOk (bW _)<|I1.hok.fresh<|bW _
def ua{σ:St}{R:It->Hp->Prop}{E:ZU}{lo hi:Int}(I:Inv X ZY σ H s)(h1:-(2^62)<=lo)(h2:lo<2^62)(h3:-(2^62)<=hi)(h4:hi<2^62)(q:R (Itr lo (hi-lo).toNat) H):Wz (WA X.prog X.w) X.A (pyIter<|.ref s.heap.objs.size) (PIE X ZY σ tg R) E {s with heap:=s.heap.push {cls:=.type "range",data:=.fields #[.int lo t,.int hi u,.int 1 v]},toks:=tk}:=by
 refine wpAny_pyIter_range (IsRange.new ..) (small_one h1 h2 h3 h4) ?_;have I1:Inv X ZY σ H {s with heap:=s.heap.push {cls:=.type "range",data:=.fields #[.int lo t,.int hi u,.int 1 v]},toks:=tk}:=I.kept λb o e=>Z2 _ e;refine⟨(s.heap.push {cls:=.type "range",data:=.fields #[.int lo t,.int hi u,.int 1 v]}).objs.size,[(s.heap.push {cls:=.type "range",data:=.fields #[.int lo t,.int hi u,.int 1 v]}).objs.size],_,_,H,rfl,
  I1.kept (t':=tk) λb o e=>Z2 _ e,w8 _ lo (hi-lo).toNat,?_,λb hb=>?_,q⟩
 ·have e1:lo+((0:Nat):Int)*1=lo:=by simp
  have e2:(((hi-lo).toNat:Nat):Int)-((0:Nat):Int)=Q7.Range.rangeSize lo hi 1:=by rw[rangeSize_one];split<;>lia
  show IsRangeIter _ _ (lo+((0:Nat):Int)*1) ((((hi-lo).toNat:Nat):Int)-((0:Nat):Int)) 1;rw[e1,e2];exact Y7 _ rfl
 ·have e:b=(s.heap.push {cls:=.type "range",data:=.fields #[.int lo t,.int hi u,.int 1 v]}).objs.size:=by simpa using hb
  subst e;exact I1.fpOk (bW _)<|I1.hok.fresh<|bW _
def iRng1(ta:TA):TI:=λσ H R=>ta σ H λvs H1=>∃j:Int,vs=[.int j]/\-(2^62)<=j/\j<2^62/\R (Itr 0 j.toNat) H1
def iRng2(ta:TA):TI:=λσ H R=>ta σ H λvs H1=>∃i j:Int,vs=[.int i,.int j]/\(-(2^62)<=i/\i<2^62/\-(2^62)<=j/\j<2^62)/\R (Itr i (j-i).toNat) H1
def jK{a:WC}{ta:TA}{p pos:Pos}(hg:Gl X "range")(hm:X.mg "range"=Wc)(ha:PA X [a] ta)(hs:autoParam (X5 [a] X.env=[(We,WF a X.env)]) cV._auto_1):PI X tg (.Call (.Name "range" p) [a] [] pos) (iRng1 ta):=by
 intro ZY s σ H R I h;refine Call_<|iq I hg hm boot_range<|P7 (bI (ha pos ZY s σ H _ I h) λus s1 ⟨vs,H1,I1,r1,j,e,q1,q2,q⟩=>?_) hs rfl;subst e;cases r1 with
 |cons r rr =>cases rr;obtain⟨t,rfl⟩:=r;exact call_range_1<|ua I1 (by lia) (by lia) q1 q2 (by simpa using q)
def qT{a b:WC}{ta:TA}{p pos:Pos}(hg:Gl X "range")(hm:X.mg "range"=Wc)(ha:PA X [a,b] ta)(hs:autoParam (X5 [a,b] X.env=[(We,WF a X.env),(We,WF b X.env)]) cV._auto_1)(hs2:autoParam (X5 [b] X.env=[(We,WF b X.env)]) cV._auto_1):
  PI X tg (.Call (.Name "range" p) [a,b] [] pos) (iRng2 ta):=by
 intro ZY s σ H R I h;refine Call_<|iq I hg hm boot_range<|P7 (bI (ha pos ZY s σ H _ I h) λus s1 ⟨vs,H1,I1,r1,i,j,e,⟨q1,q2,q3,q4⟩,q⟩=>?_) (by rw[hs,hs2]) (by rw[hs2];rfl);subst e;cases r1 with
 |cons r rr =>
  cases rr with
  |cons r' rr =>cases rr;obtain⟨t,rfl⟩:=r;obtain⟨t',rfl⟩:=r';exact call_range_2<|ua I1 q1 q2 q3 q4 q
def ub(wi:TI)(g:TG)(tb:TS):TS:=λD σ H=>wi σ H λJ H1=>∃W:Nat->Nat->St->Hp->Prop,(∃m,W 0 m σ H1)/\∀i m σ H,W i m σ H ->
 (J.stop i H/\D.nx σ H)\/(J.go i H/\∃N:St->Hp->Prop,(∀σ' H',N σ' H'->∃m',m'<m/\W (i+1) m' σ' H')/\∀x H',J.yld i H x H'->g x σ H' λσ2 H2=>tb {D with nx:=N,ct:=N,bk:=D.nx} σ2 H2)
def oK(fp:Zy)(h:WD):List (Wy×Obj):=fp.filterMap λb=>(h.get? b).map λo=>(b,o)
def iS(hb:b∈fp)(e:h.get? b=Wb o):(b,o)∈oK fp h:=List.mem_filterMap.mpr ⟨b,hb,by rw[e];rfl⟩
def z8(hp:p∈oK fp h):p.1∈fp/\h.get? p.1=Wb p.2:=by
 obtain⟨b,hb,e⟩:=List.mem_filterMap.mp hp;cases q:h.get? b with
 |none=>rw[q]at e;cases e
 |some o =>rw[q]at e;have e':(b,o)=p:=Z4 e;subst e';exact⟨hb,q⟩
def Inv.pinned{σ:St}(I:Inv X ZY σ H s)(hf:∀b∈fp,lw X ZY H b)(ho:∀b∈fp,∃o,s.heap.get? b=Wb o/\∀v,o.data≠.cell v):Inv X (ZY++oK fp s.heap) σ H s :=
 I.pins_of λp hp=>(Y9.mp hp).elim (λz=>I.pin p<|Y2 _ z) λz=>by obtain⟨hb,e⟩:=z8 z;obtain⟨f0,f1,f2,_⟩:=hf p.1 hb;obtain⟨o,e',d⟩:=ho p.1 hb;rw[e]at e';cases e';exact⟨e,f0,f1,f2,d⟩
def Inv.unpinned{σ:St}(I:Inv X (ZY++pl) σ H s):Inv X ZY σ H s:=I.pins_of λp hp=>I.pin p<|Y2 _<|X8 _ hp
def c0{iter:WC}{body:List WH}{wi:TI}{g:TG}{tb:TS}{pos:Pos}(hp:PassesOwn (WA X.prog X.w) X.A X.env X.xe)(hc:X.calm=Wd)(hi:PI X tg iter wi)(hg:PG X tg g)(hb:nQ X body tb)(hs:autoParam (∀x,Vo iter X.env x=pure x) a1q._auto_1):PS X (.For tg iter body [] pos) (ub wi g tb):=by
 intro ZY s σ H D I h;refine wpAny_For (bI (hi ZY s σ H _ I h) λv s1 h1=>bI h1 λitv s2 h2=>?_) hs;obtain⟨it,fp,tn,J,H2,rfl,I2,T,st2,f2,W,⟨m0,w0⟩,turn⟩:=h2;have stat:∀{H':Hp},(∀b∈fp,H' b=Wc)->∀b∈fp,lw X ZY H' b:=λhn b hb=>⟨hn b hb,(f2 b hb).2⟩;refine codeAny_forLoop_any (λn s'=>∃i σ' H',Inv X ZY σ' H' s'/\tn i s'.heap/\(∀b∈fp,H' b=Wc)/\W i n σ' H') ?_ m0 ⟨0,σ,H2,I2,st2,λb hb=>(f2 b hb).1,w0⟩;rintro n s3 ⟨i,σ3,H3,I3,st3,fr3,w3⟩;rcases turn i n σ3 H3 w3 with zr|zr
 ·obtain⟨stop,qn⟩:=zr;refine G8 hp (bI (T.done X rfl rfl rfl hc i ZY s3 σ3 H3 X.xe I3 (stat fr3) st3 stop) λr s4 ⟨hr,I4⟩=>?_);subst hr;exact Vh ⟨σ3,H3,I4,qn⟩
 ·obtain⟨go,N,hN,step⟩:=zr;refine G8 hp (bI (T.item X rfl rfl rfl hc i ZY s3 σ3 H3 X.xe I3 (stat fr3) st3 go) λr s4 ⟨u,hr,h4⟩=>?_);subst hr;refine G8 hp (bI h4 λ_ s5 ⟨x,H5,I5,r5,y5,st5,fr5⟩=>?_);have I5':=I5.pinned (stat fr5)<|T.obj _ _ st5;refine G8 hp (bI (hg _ s5 σ3 H5 x u _ I5' r5<|step x H5 y5) λ_ s6 ⟨σ6,H6,I6,q6⟩=>?_);refine G8 hp (bI (hb _ s6 σ6 H6 _ I6 q6) λf s7 q7=>?_);have again:∀{σ7:St} {H7:Hp},Inv X (ZY++oK fp s5.heap) σ7 H7 s7->N σ7 H7->∃m,m<n/\∃i σ' H',Inv X ZY σ' H' s7/\tn i s7.heap/\(∀b∈fp,H' b=Wc)/\W i m σ' H':=λ{σ7 H7} I7 n7=>by obtain⟨m',hm,w7⟩:=hN σ7 H7 n7;refine⟨m',hm,i+1,σ7,H7,I7.unpinned,T.keep _ _ _ st5 λb hb o e=>(I7.pin (b,o)<|Y2 _<|Y2 _<|iS hb e).1,λb hb=>?_,w7⟩;obtain⟨o,e,d⟩:=T.obj _ _ st5 b hb;exact(I7.pin (b,o)<|Y2 _<|Y2 _<|iS hb e).2.1
  cases f with
  |next=>obtain⟨σ7,H7,I7,n7⟩:=q7;exact again I7 n7
  |cont=>obtain⟨σ7,H7,I7,n7⟩:=q7;exact again I7 n7
  |brk=>obtain⟨σ7,H7,I7,q7⟩:=q7;exact⟨σ7,H7,I7.unpinned,q7⟩
  |ret v=>obtain⟨x7,σ7,H7,I7,r7,q7⟩:=q7;exact⟨x7,σ7,H7,I7.unpinned,r7,q7⟩
end
abbrev R2:=V->V->Hp->VK->Prop
def kh(X:Cx)(f:Wx->Wx->Sem Wx)(r:R2):Prop :=
 ∀(ZY:ZN) (s:Ww) (σ:St) (H:Hp) (x y:V) (v u:Wx) (Q:VK),Inv X ZY σ H s->RelV x v->RelV y u->r x y H Q ->
  Wz (WA X.prog X.w) X.A (f v u) (EP X ZY σ Q) X.xe s
def UnR(X:Cx)(f:Wx->Sem Wx)(r:V->Hp->VK->Prop):Prop :=
 ∀(ZY:ZN) (s:Ww) (σ:St) (H:Hp) (x:V) (v:Wx) (Q:VK),Inv X ZY σ H s->RelV x v->r x H Q ->
  Wz (WA X.prog X.w) X.A (f v) (EP X ZY σ Q) X.xe s
def eG(X:Cx)(f:Wx)(r:List V->Hp->VK->Prop):Prop :=
 ∀(ZY:ZN) (s:Ww) (σ:St) (H:Hp) (xs:List V) (us:ZO) (Q:VK),Inv X ZY σ H s->aS xs us->r xs H Q ->
  Wz (WA X.prog X.w) X.A (call f us) (EP X ZY σ Q) X.xe s
def TruR(X:Cx)(r:V->Hp->(Bool->Hp->Prop)->Prop):Prop :=
 ∀(ZY:ZN) (s:Ww) (σ:St) (H:Hp) (x:V) (v:Wx) (Q:Bool->Hp->Prop),Inv X ZY σ H s->RelV x v->r x H Q ->
  Wz (WA X.prog X.w) X.A (truthy v) (TP X ZY σ Q) X.xe s
def iQ(r:R2)(ta tb:TE):TE:=λσ H Q=>ta σ H λx H1=>tb σ H1 λy H2=>r x y H2 Q
def tUn(r:V->Hp->VK->Prop)(ta:TE):TE:=λσ H Q=>ta σ H λx H1=>r x H1 Q
def rI(C:Int->Int->Prop)(g:Int->Int->V):R2:=λx y H Q=>∃i j,x=.int i/\y=.int j/\C i j/\Q (g i j) H
def uc(g:Int->Int->V):R2:=λx y H Q=>∃i j,x=.int i/\y=.int j/\Q (g i j) H
def rU(g:Int->V):V->Hp->VK->Prop:=λx H Q=>∃i,x=.int i/\Q (g i) H
section
variable {X:Cx}{a b:WC}{ta tb:TE}{pos:Pos}
def binT(ha:PE X a ta)(hb:PE X b tb){σ:St}{R:V->V->Hp->Prop}(I:Inv X ZY σ H s)(h:ta σ H λx H1=>tb σ H1 λy H2=>R x y H2){Q:ZU}{f:Wx->Wx->Sem Wx}(hf:∀v u s2 x y H2,Inv X ZY σ H2 s2->RelV x v->RelV y u->R x y H2->Wz (WA X.prog X.w) X.A (f v u) Q X.xe s2):
  Wz (WA X.prog X.w) X.A (WF a X.env) (λv s₁=>Wz (WA X.prog X.w) X.A (WF b X.env) (λu s₂=>Wz (WA X.prog X.w) X.A (f v u) Q X.xe s₂) X.xe s₁) X.xe s:=by
 refine bI (ha ZY s σ H _ I h) λv s1 ⟨x,H1,I1,r1,q1⟩=>?_;refine bI (hb ZY s1 σ H1 _ I1 q1) λu s2 ⟨y,H2,I2,r2,q2⟩=>?_;exact hf v u s2 x y H2 I2 r1 r2 q2
def az(ho:kh X (WS op) r)(ha:PE X a ta)(hb:PE X b tb):PE X (.BinOp a op b pos) (iQ r ta tb):=by intro ZY s σ H Q I h;exact wpAny_BinOp (binT ha hb I h λv u s2 x y H2 I2 rx ry q=>ho ZY s2 σ H2 x y v u Q I2 rx ry q)
def xP{r:V->Hp->VK->Prop}(ho:UnR X (unaryOp op) r)(ha:PE X a ta):PE X (.UnaryOp op a pos) (tUn r ta):=by intro ZY s σ H Q I h;exact UnaryOp_ (bI (ha ZY s σ H _ I h) λv s1 ⟨x,H1,I1,r1,q1⟩=>ho ZY s1 σ H1 x v Q I1 r1 q1)
def opI{f:Wx->Wx->Sem Wx}{C:Int->Int->Prop}{g:Int->Int->Int}(rule:∀(i j:Int) (t u:Tok) (s:Ww) (Q:ZU) (E:ZU),C i j->Q (.int (g i j) s.toks) {s with toks:=s.toks+1}->Wz (WA X.prog X.w) X.A (f (.int i t)<|.int j u) Q E s):
  kh X f (rI C λi j=>.int<|g i j):=by
 intro ZY s σ H x y v u Q I rx ry h;obtain⟨i,j,rfl,rfl,hc,q⟩:=h;obtain⟨t,rfl⟩:=rx;obtain⟨t',rfl⟩:=ry;exact rule i j t t' s _ _ hc ⟨.int<|g i j,H,I.tok _,⟨_,rfl⟩,q⟩
def opI0{f:Wx->Wx->Sem Wx}{g:Int->Int->Int}(rule:∀(i j:Int) (t u:Tok) (s:Ww) (Q:ZU) (E:ZU),Q (.int (g i j) s.toks) {s with toks:=s.toks+1}->Wz (WA X.prog X.w) X.A (f (.int i t)<|.int j u) Q E s):
  kh X f (uc λi j=>.int<|g i j):=by
 intro ZY s σ H x y v u Q I rx ry h;obtain⟨i,j,rfl,rfl,q⟩:=h;obtain⟨t,rfl⟩:=rx;obtain⟨t',rfl⟩:=ry;exact rule i j t t' s _ _ ⟨.int<|g i j,H,I.tok _,⟨_,rfl⟩,q⟩
def opB0{f:Wx->Wx->Sem Wx}{g:Int->Int->Bool}(rule:∀(i j:Int) (t u:Tok) (s:Ww) (Q:ZU) (E:ZU),Q (.bool<|g i j) s->Wz (WA X.prog X.w) X.A (f (.int i t)<|.int j u) Q E s):
  kh X f (uc λi j=>.bl<|g i j):=by
 intro ZY s σ H x y v u Q I rx ry h;obtain⟨i,j,rfl,rfl,q⟩:=h;obtain⟨t,rfl⟩:=rx;obtain⟨t',rfl⟩:=ry;exact rule i j t t' s _ _ ⟨.bl<|g i j,H,I,rfl,q⟩
def CPow(i j:Int):Prop:=0<=j/\j<=1000000/\i.natAbs<2^64
def z9(i j:Int):Prop:=(-(2^64)<i/\i<2^64)\/(-(2^64)<j/\j<2^64)
def z9.ok(h:z9 i j):IntMulOk i j:=by
 rcases h with ⟨h1,h2⟩|⟨h1,h2⟩
 ·exact .of_left<|intBits_le_64 h1 h2
 ·exact .of_right<|intBits_le_64 h1 h2
def bq:kh X (WS .Add) (uc λi j=>.int<|i+j):=opI0 λx x x x x x x q=>add_int q
def ir:kh X (WS .Sub) (uc λi j=>.int<|i-j):=opI0 λx x x x x x x q=>sub_int q
def dz:kh X (WS .Mult) (rI z9 λi j=>.int<|i*j):=opI λx x x x x x x hc q=>mul_int q hc.ok
def dk:kh X (WS .Mod) (rI (λx j=>0<j) λi j=>.int<|i%j):=opI λi j x x x x x hc q=>by have h1:(0:Int)<j:=hc;exact mod_int' (by lia) (by rw[Int.fmod_eq_emod_of_nonneg i (by lia)];exact q)
def kC:kh X (WS .Pow) (rI CPow λi j=>.int<|i^j.toNat):=opI λx x x x x x x hc q=>pow_int_small hc.1 hc.2.1 hc.2.2 q
def unI{f:Wx->Sem Wx}{g:Int->Int}(rule:∀(i:Int) (t:Tok) (s:Ww) (Q:ZU) (E:ZU),Q (.int (g i) s.toks) {s with toks:=s.toks+1}->Wz (WA X.prog X.w) X.A (f<|.int i t) Q E s):
  UnR X f (rU λi=>.int<|g i):=by
 intro ZY s σ H x v Q I rx h;obtain⟨i,rfl,q⟩:=h;obtain⟨t,rfl⟩:=rx;exact rule i t s _ _ ⟨.int<|g i,H,I.tok _,⟨_,rfl⟩,q⟩
def sk:UnR X (unaryOp .USub) (rU λi=>.int<|-i):=unI λx x x x x q=>neg_int q
end
def ud:V->V->Bool
 |.non,.non=>Wd|.non,.int _=>Wd|.int _,.non=>Wd|.non,.bl _=>Wd|.bl _,.non=>Wd|.non,.str _=>Wd|.str _,.non=>Wd
 |.int _,.int _=>Wd|.bl _,.bl _=>Wd|.str _,.str _=>Wd|.byt _,.byt _=>Wd
 |.int _,.str _=>Wd|.str _,.int _=>Wd|.bl _,.str _=>Wd|.str _,.bl _=>Wd
 |_,_=>We
def rEq:R2:=λx y H Q=>ud x y=Wd/\Q (.bl<|decide<|x=y) H
def rNe:R2:=λx y H Q=>ud x y=Wd/\Q (.bl<|!decide (x=y)) H
def xQ:decide (V.int i=V.int j)=(i==j):=by rw[V6];simp
def AI:decide (V.bl i=V.bl j)=(i==j):=by rw[V6];simp
def xR:decide (V.str i=V.str j)=(i==j):=by rw[V6];simp
def xS:decide (V.byt i=V.byt j)=(i.toList==j.toList):=by rw[V6];cases i;cases j;simp
section
variable {X:Cx}{a b c:WC}{ta tb tc:TE}{pos:Pos}
def bn{σ:St}(I:Inv X ZY σ H s)(q:Q (.bl k) H)(e:k=k'):EP X ZY σ Q (.bool k') s:=by subst e;exact⟨.bl k,H,I,rfl,q⟩
def jn:kh X (R8 .Eq) rEq:=by
 intro ZY s σ H x y v u Q I rx ry h;obtain⟨hs,q⟩:=h;cases x with
 |non =>
  cases rx;cases y with
  |non=>cases ry;exact PySem.EqNone.eq_none_none<|bn I q (by simp)
  |bl j=>cases ry;exact PySem.EqNone.eq_none_bool<|bn I q (by simp)
  |int j=>obtain⟨t',rfl⟩:=ry;exact PySem.EqNone.eq_none_int<|bn I q (by simp)
  |str j=>obtain⟨t',rfl⟩:=ry;exact PySem.EqNone.eq_none_str<|bn I q (by simp)
  |_=>exact VR (show We=Wd from hs) Z3
 |bl i =>
  cases rx;cases y with
  |non=>cases ry;exact PySem.EqNone.eq_bool_none<|bn I q (by simp)
  |bl j=>cases ry;exact eq_bool<|bn I q AI
  |str j=>obtain⟨t',rfl⟩:=ry;exact PySem.EqMixed.eq_bool_str<|bn I q (by simp)
  |_=>exact VR (show We=Wd from hs) Z3
 |int i =>
  obtain⟨t,rfl⟩:=rx;cases y with
  |non=>cases ry;exact PySem.EqNone.eq_int_none<|bn I q (by simp)
  |int j=>obtain⟨t',rfl⟩:=ry;exact eq_int<|bn I q xQ
  |str j=>obtain⟨t',rfl⟩:=ry;exact PySem.EqMixed.eq_int_str<|bn I q (by simp)
  |_=>exact VR (show We=Wd from hs) Z3
 |str i =>
  obtain⟨t,rfl⟩:=rx;cases y with
  |non=>cases ry;exact PySem.EqNone.eq_str_none<|bn I q (by simp)
  |bl j=>cases ry;exact PySem.EqMixed.eq_str_bool<|bn I q (by simp)
  |int j=>obtain⟨t',rfl⟩:=ry;exact PySem.EqMixed.eq_str_int<|bn I q (by simp)
  |str j=>obtain⟨t',rfl⟩:=ry;exact eq_str<|bn I q xR
  |_=>exact VR (show We=Wd from hs) Z3
 |byt i =>
  obtain⟨t,rfl⟩:=rx;cases y with
  |byt j=>obtain⟨t',rfl⟩:=ry;exact PySem.W.eq_bytes<|bn I q xS
  |_=>exact VR (show We=Wd from hs) Z3
 |_=>cases y<;>exact VR (show We=Wd from hs) Z3
def nn:kh X (R8 .NotEq) rNe:=by
 intro ZY s σ H x y v u Q I rx ry h;obtain⟨hs,q⟩:=h;cases x with
 |non =>
  cases rx;cases y with
  |non=>cases ry;exact PySem.EqNone.ne_none_none<|bn I q (by simp)
  |bl j=>cases ry;exact PySem.EqNone.ne_none_bool<|bn I q (by simp)
  |int j=>obtain⟨t',rfl⟩:=ry;exact PySem.EqNone.ne_none_int<|bn I q (by simp)
  |str j=>obtain⟨t',rfl⟩:=ry;exact PySem.EqNone.ne_none_str<|bn I q (by simp)
  |_=>exact VR (show We=Wd from hs) Z3
 |bl i =>
  cases rx;cases y with
  |non=>cases ry;exact PySem.EqNone.ne_bool_none<|bn I q (by simp)
  |bl j=>cases ry;exact ne_bool<|bn I q<|congrArg not AI
  |str j=>obtain⟨t',rfl⟩:=ry;exact PySem.EqMixed.ne_bool_str<|bn I q (by simp)
  |_=>exact VR (show We=Wd from hs) Z3
 |int i =>
  obtain⟨t,rfl⟩:=rx;cases y with
  |non=>cases ry;exact PySem.EqNone.ne_int_none<|bn I q (by simp)
  |int j=>obtain⟨t',rfl⟩:=ry;exact ne_int<|bn I q<|congrArg not xQ
  |str j=>obtain⟨t',rfl⟩:=ry;exact PySem.EqMixed.ne_int_str<|bn I q (by simp)
  |_=>exact VR (show We=Wd from hs) Z3
 |str i =>
  obtain⟨t,rfl⟩:=rx;cases y with
  |non=>cases ry;exact PySem.EqNone.ne_str_none<|bn I q (by simp)
  |bl j=>cases ry;exact PySem.EqMixed.ne_str_bool<|bn I q (by simp)
  |int j=>obtain⟨t',rfl⟩:=ry;exact PySem.EqMixed.ne_str_int<|bn I q (by simp)
  |str j=>obtain⟨t',rfl⟩:=ry;exact ne_str<|bn I q<|congrArg not xR
  |_=>exact VR (show We=Wd from hs) Z3
 |byt i =>
  obtain⟨t,rfl⟩:=rx;cases y with
  |byt j=>obtain⟨t',rfl⟩:=ry;exact PySem.W.ne_bytes<|bn I q<|congrArg not xS
  |_=>exact VR (show We=Wd from hs) Z3
 |_=>cases y<;>exact VR (show We=Wd from hs) Z3
def xT:kh X (R8 .Lt) (uc λi j=>.bl<|decide<|i<j):=opB0 λx x x x x x x q=>lt_int q
def oM:kh X (R8 .LtE) (uc λi j=>.bl<|decide<|i<=j):=opB0 λx x x x x x x q=>le_int q
def op_gt:kh X (R8 .Gt) (uc λi j=>.bl<|decide<|j<i):=opB0 λx x x x x x x q=>gt_int q
def sr:kh X (R8 .Is) (λx y H Q=>y=.non/\Q (.bl<|decide<|x=.non) H):=by
 intro ZY s σ H x y v u Q I rx ry h;obtain⟨rfl,q⟩:=h;cases ry;refine is_none_gen<|bn I q ?_;cases x<;>first
  |(cases rx;rfl)
  |(obtain⟨t,rfl⟩:=rx;rfl)
def su:kh X (R8 .IsNot) (λx y H Q=>y=.non/\Q (.bl<|!decide (x=.non)) H):=by
 intro ZY s σ H x y v u Q I rx ry h;obtain⟨rfl,q⟩:=h;cases ry;refine isnot_none_gen<|bn I q ?_;cases x<;>first
  |(cases rx;rfl)
  |(obtain⟨t,rfl⟩:=rx;rfl)
def aY(b:WC){op:CmpOp}(h:autoParam (op≠.In) gR._auto_1)(h2:autoParam (op≠.NotIn) gR._auto_1):WR op b=We:=by
 have e1:(op==CmpOp.In)=We:=by cases op<;>first|rfl|exact VR rfl h
 have e2:(op==CmpOp.NotIn)=We:=by cases op<;>first|rfl|exact VR rfl h2
 cases b<;>simp[WR,e1,e2]
def fX(ho:kh X (R8 op) r)(ha:PE X a ta)(hb:PE X b tb)(hm:WR op b=We):PE X (.Compare a [op] [b] pos) (iQ r ta tb):=by intro ZY s σ H Q I h;exact wpAny_Compare1 (binT ha hb I h λv u s2 x y H2 I2 rx ry q=>ho ZY s2 σ H2 x y v u Q I2 rx ry q) hm
def AJ(t:TE):TT:=λσ H Q=>t σ H λx H'=>∃k,x=.bl k/\Q k H'
def aZ(ho:kh X (R8 op) r)(ha:PE X a ta)(hb:PE X b tb)(hm:WR op b=We):PT X (.Compare a [op] [b] pos) (AJ<|iQ r ta tb):=by
 intro ZY s σ H Q I h;refine wpAny_isTrue_Compare1 (bI (ha ZY s σ H _ I h) λv s1 ⟨x,H1,I1,r1,q1⟩=>bI (hb ZY s1 σ H1 _ I1 q1) λu s2 ⟨y,H2,I2,r2,q2⟩=>
  bI (ho ZY s2 σ H2 x y v u _ I2 r1 r2 q2) λc s3 ⟨z,H3,I3,r3,k,e,q3⟩=>?_) hm
 subst e;cases r3;exact R9 ⟨H3,I3,q3⟩
def sv(r r':R2)(ta tb tc:TE):TE:=λσ H Q=>ta σ H λx H1=>tb σ H1 λy H2=>r x y H2 λz H3=>∃k,z=.bl k /\
 (if k=Wd then tc σ H3 λw' H4=>r' y w' H4 Q else Q (.bl We) H3)
def ue{op op':CmpOp}{r r':R2}(ho:kh X (R8 op) r)(ho':kh X (R8 op') r')(ha:PE X a ta)(hb:PE X b tb)(hc:PE X c tc)(hm:autoParam (lastMarks [op,op'] [b,c]=We) a3q._auto_1):PE X (.Compare a [op,op'] [b,c] pos) (sv r r' ta tb tc):=by
 intro ZY s σ H Q I h;refine Compare_chain (bI (ha ZY s σ H _ I h) λv s1 ⟨x,H1,I1,r1,q1⟩=>chain_link (bI (hb ZY s1 σ H1 _ I1 q1) λu s2 ⟨y,H2,I2,r2,q2⟩=>
  bI (ho ZY s2 σ H2 x y v u _ I2 r1 r2 q2) λd s3 ⟨z,H3,I3,r3,k,e,q3⟩=>?_)) hm
 subst e;cases r3;refine R9 ?_;cases k with
 |false=>exact ite_ff ⟨.bl We,H3,I3,rfl,q3⟩
 |true=>exact ite_tt<|chain_last (bI (hc ZY s3 σ H3 _ I3 q3) λw' s4 ⟨z',H4,I4,r4,q4⟩=>ho' ZY s4 σ H4 y z' u w' Q I4 r2 r4 q4)
def AK{op op':CmpOp}{r r':R2}(ho:kh X (R8 op) r)(ho':kh X (R8 op') r')(ha:PE X a ta)(hb:PE X b tb)(hc:PE X c tc)(hm:autoParam (lastMarks [op,op'] [b,c]=We) a3q._auto_1):PT X (.Compare a [op,op'] [b,c] pos) (AJ<|sv r r' ta tb tc):=by
 intro ZY s σ H Q I h;refine isTrue_chain (bI (ha ZY s σ H _ I h) λv s1 ⟨x,H1,I1,r1,q1⟩=>test_link (bI (hb ZY s1 σ H1 _ I1 q1) λu s2 ⟨y,H2,I2,r2,q2⟩=>
  bI (ho ZY s2 σ H2 x y v u _ I2 r1 r2 q2) λd s3 ⟨z,H3,I3,r3,k,e,q3⟩=>?_)) hm
 subst e;cases r3;refine R9 ?_;cases k with
 |false =>obtain⟨k',e',q'⟩:=q3;cases e';exact ite_ff ⟨H3,I3,q'⟩
 |true =>refine ite_tt<|test_last (bI (hc ZY s3 σ H3 _ I3 q3) λw' s4 ⟨z',H4,I4,r4,q4⟩=>bI (ho' ZY s4 σ H4 y z' u w' _ I4 r2 r4 q4) λd' s5 ⟨z2,H5,I5,r5,k2,e2,q5⟩=>?_);subst e2;cases r5;exact R9 ⟨H5,I5,q5⟩
def TruV(K:Z1)(x:V)(H:Hp)(k:Bool):Prop :=
 match x with
 |.non=>k=We
 |.bl b=>k=b
 |.int i=>k=(i != 0)
 |.str y=>y.length<=W0/\k=((y.length:Int) != 0)
 |.byt y=>y.size<=W0/\k=((y.size:Int) != 0)
 |.ref p=>(∃xs,dj K H p xs/\k=!xs.isEmpty)\/(∃xs,l9 K H p xs/\k=!xs.isEmpty)\/∃kvs,H p=Wb (.dK kvs)/\k=!kvs.isEmpty
 |_=>False
def wc{κ:Type}{kvs:List (κ×V)}{vs:List (κ×Wx)}(r:KV kvs vs):(!vs.isEmpty)=!kvs.isEmpty:=by cases r<;>rfl
def oN(r:aS xs Wj):(!Wj.toArray.isEmpty)=!xs.isEmpty:=by cases r<;>simp
def oO:(W0:Nat)<2^63:=by rw[V0];decide
def tru_ok:TruR X (λx H Q=>∃k,TruV X.K x H k/\Q k H):=by
 intro ZY s σ H x v Q I rx h;obtain⟨k,e,q⟩:=h;have hl:=oO;have hs:W0=16777216:=V0;cases x with
 |non =>cases rx;have e':k=We:=e;subst e';exact truthy_none ⟨H,I,q⟩
 |bl b =>cases rx;have e':k=b:=e;subst e';exact R9 ⟨H,I,q⟩
 |int i =>obtain⟨t,rfl⟩:=rx;have e':k=(i != 0):=e;subst e';exact PySem.P.truthy_int ⟨H,I,q⟩
 |str y =>obtain⟨t,rfl⟩:=rx;obtain⟨hy,rfl⟩:=show y.length<=W0/\k=((y.length:Int) != 0) from e;exact PySem.P.truthy_str (by lia) ⟨H,I.tok _,q⟩
 |byt y =>obtain⟨t,rfl⟩:=rx;obtain⟨hy,rfl⟩:=show y.size<=W0/\k=((y.size:Int) != 0) from e;exact PySem.W.truthy_bytes (by lia) ⟨H,I.tok _,q⟩
 |ref p =>
  cases rx;have e':(∃xs,dj X.K H p xs/\k=!xs.isEmpty)\/(∃xs,l9 X.K H p xs/\k=!xs.isEmpty)\/∃kvs,H p=Wb (.dK kvs)/\k=!kvs.isEmpty:=e;rcases e' with ⟨xs,hx,e'⟩|⟨xs,hx,e'⟩|⟨kvs,hx,e'⟩
  ·subst e';obtain⟨Wj,r,pl,hz⟩:=I.list hx;have hlen:=r.length;exact wpAny_truthy_list pl.isList (by simp only[Y6];lia) ⟨H,I.tok _,by rw[oN r];exact q⟩
  ·subst e';obtain⟨Wj,r,pl,hz⟩:=I.tuple hx;have hlen:=r.length;exact truthy_tuple pl (by simp only[Y6];lia) ⟨H,I.tok _,by rw[oN r];exact q⟩
  ·subst e';obtain⟨hz,hS,vs,r,m⟩:=show kvs.length<=W0/\(p==G0)=We/\∃vs,KV kvs vs/\s.heap.DictOf (bi X.prog X.w) p vs from I.hok p _ hx;have hlen:kvs.length=vs.length:=Paired.length r;exact wpAny_truthy_dict hS m (by lia) ⟨H,I.tok _,by rw[wc r];exact q⟩
 |_=>exact(show False from e).elim
def AL(ha:PE X a ta)(he:∀whole,isTrue a X.env whole=(do let v <- whole;Vk a.pos;WM [v] (truthy v))):
  PT X a (λσ H Q=>ta σ H λx H'=>∃k,TruV X.K x H' k/\Q k H'):=by
 intro ZY s σ H Q I h;exact isTrue_plain (bI (ha ZY s σ H _ I h) λv s1 ⟨x,H1,I1,r1,q1⟩=>tru_ok ZY s1 σ H1 x v Q I1 r1 q1)<|he _
def vals1(r:aS [x] us):∃u,us=[u]/\RelV x u:=by
 cases r with
 |cons r1 r2=>cases r2;exact⟨_,rfl,r1⟩
def vals2(r:aS [x,y] us):∃u w',us=[u,w']/\RelV x u/\RelV y w':=by
 cases r with
 |cons r1 r2 =>
  cases r2 with
  |cons r3 r4=>cases r4;exact⟨_,_,rfl,r1,r3⟩
def oP:eG X (.builtin "abs") (λxs H Q=>∃i,xs=[.int i]/\Q (.int (if i<0 then -i else i)) H):=by intro ZY s σ H xs us Q I r h;obtain⟨i,rfl,q⟩:=h;obtain⟨u,rfl,t,rfl⟩:=vals1 r;exact call_abs_int λu tk=>⟨.int (if i<0 then -i else i),H,I.tok _,⟨_,rfl⟩,q⟩
def iB(hc:X.calm=Wd):eG X (.builtin "max") (λxs H Q=>∃i j,xs=[.int i,.int j]/\Q (.int (if j > i then j else i)) H):=by
 intro ZY s σ H xs us Q I r h;obtain⟨i,j,rfl,q⟩:=h;obtain⟨u,w',rfl,⟨t,rfl⟩,⟨t',rfl⟩⟩:=vals2 r;refine max_two_ints (I.ok.hd hc) λh' tk k=>⟨_,H,I.kept k,?_,q⟩;by_cases hj:j > i
 ·rw[VP hj,VP hj];exact⟨_,rfl⟩
 ·rw[VQ hj,VQ hj];exact⟨_,rfl⟩
def iC(hc:X.calm=Wd):eG X (.builtin "min") (λxs H Q=>∃i j,xs=[.int i,.int j]/\Q (.int (if j<i then j else i)) H):=by
 intro ZY s σ H xs us Q I r h;obtain⟨i,j,rfl,q⟩:=h;obtain⟨u,w',rfl,⟨t,rfl⟩,⟨t',rfl⟩⟩:=vals2 r;refine min_two_ints (I.ok.hd hc) λh' tk k=>⟨_,H,I.kept k,?_,q⟩;by_cases hj:j<i
 ·rw[VP hj,VP hj];exact⟨_,rfl⟩
 ·rw[VQ hj,VQ hj];exact⟨_,rfl⟩
def za:eG X (.type "int") (λxs H Q=>(∃i,xs=[.int i]/\Q (.int i) H)\/∃k,xs=[.bl k]/\Q (.int (if k then 1 else 0)) H):=by
 intro ZY s σ H xs us Q I r h;rcases h with ⟨i,rfl,q⟩|⟨k,rfl,q⟩
 ·obtain⟨u,rfl,t,rfl⟩:=vals1 r;exact call_int_int ⟨.int i,H,I,⟨_,rfl⟩,q⟩
 ·obtain⟨u,rfl,r1⟩:=vals1 r;cases r1;exact call_int_bool ⟨.int (if k then 1 else 0),H,I.tok _,⟨_,rfl⟩,q⟩
end
structure ObjM(h:WD)(x dx C:Wy)(mA:ZM):Prop where
 obj:h.get? x=Wb (K7 C dx)
 ns:h.Ns1 dx mA
 ne:dx≠x
set_option tactic.hygienic true in
def zb{h:WD}{mA:ZM}(n:h.Ns1 dx mA):∃od,h.get? dx=Wb od/\∀name,PySem.W.lookIn name od=Wb (mA name):=by
 obtain⟨o,es,ep,ho,hd,hk,_,hm⟩:=n;refine⟨o,ho,λname=>?_⟩;have e:=hm name;unfold nsFind findBy at e;rw[<- Array.find?_toList]at e;unfold PySem.W.lookIn;rw[hd];dsimp only;split
 ·rename_i y q;rw[q]at e;exact congrArg Wb e
 ·rename_i q;rw[q]at e;have a:es.toList.any (·.refKey)=We:=by rw[List.any_eq_false];intro y hy;obtain⟨z,t,hkey⟩:=hk y<|Array.mem_toList_iff.mp hy;simp[O1.refKey,hkey]
  have a':¬ es.toList.any (·.refKey)=Wd:=by rw[a];exact Z3
  rw[VQ a'];exact congrArg Wb e
def ObjM.look{mA:ZM}(I:ObjM h x dx C mA):∃od,PySem.W.InstAt h x (K7 C dx) C (Wb od)/\∀name,PySem.W.lookIn name od=Wb (mA name) :=
 let ⟨od,ho,hl⟩:=zb I.ns
 ⟨od,⟨I.obj,rfl,rfl,ho⟩,hl⟩
section
variable {prog:W7}{w:WB}{A:WE}{E:ZU}{s:Ww}{K:Z1}{x dx C f:Wy}{mA:ZM}{name:Str}{v:Wx}
def get_map{Q:ZU}(X:K.In s.heap)(I:ObjM s.heap x dx C mA)(hg:PySem.W.plainGet K C name=Wd)(hh:PySem.W.hasDictIn K C=Wd)(ha:P0 K (.ref C) name=Wb Wc)(hv:mA name=Wb v)(hv':PySem.W.handedIn v=Wd)(h:Q v {s with toks:=s.toks+1}):
  Wz (WA prog w) A (getAttr (.ref x) name expr) Q E s:=by
 obtain⟨od,J,hl⟩:=I.look;exact PySem.W.get_value X J (PySem.W.plainGet_of hg).1 (PySem.W.findObj_own hh ha rfl (by rw[hl,hv])) hv' h
def AM{Q:Wx×List Wx->Ww->Prop}(X:K.In s.heap)(I:ObjM s.heap x dx C mA)(hg:PySem.W.plainGet K C name=Wd)(hf:P0 K (.ref C) name=Wb (Wb<|.ref f))(ht:PySem.W.isFn K (.ref f)=Wd)(hv:mA name=Wc)(h:Q (.ref f,[.ref x]) s):
  Wz (WA prog w) A (Vu (.ref x) name pl) Q E s:=by
 obtain⟨od,J,hl⟩:=I.look;exact PySem.W.method_fn X J (PySem.W.plainGet_of hg).1 (PySem.W.plainGet_of hg).2 hf (beq_iff_eq.mp ht) (by show (PySem.W.lookIn name od).map (·.isSome)=Wb We;rw[hl,hv];rfl) h
def set_map{Q:Unit->Ww->Prop}(X:K.In s.heap)(I:ObjM s.heap x dx C mA)(hs:P0 K (.ref C) "__setattr__"=Wb (Wb<|.builtin "object.__setattr__"))(hp:PySem.W.plainOver K C=Wd)(ht:PySem.W.takerIn K C name=Wb Wc)(hh:PySem.W.hasDictIn K C=Wd)(hw:PySem.Within mA ns)(hsz:ns.length<=W0)(h:∀h',ObjM h' x dx C (λy=>if y=name then Wb v else mA y)->S8 dx s.heap h'->Q () {s with heap:=h',toks:=s.toks+2}):
  Wz (WA prog w) A (setAttr (.ref x) name v) Q E s:=by
 obtain⟨od,J,hl⟩:=I.look;refine PySem.W.set_plain X J hs (PySem.W.osa_open (s:={s with toks:=s.toks+1}) (r:=Wc) X J hp ht λb=>?_);obtain⟨cd,hc,hd'⟩:=PySem.W.any_some hh;have hx:s.heap.get? x=Wb ⟨.ref C,Wb dx,.plain,#[]⟩:=I.obj;refine Z0<|Z8<|Z0<|Z0<|wpAny_loadPart hx<|Z0<|PySem.W.Looks.here (s:={s with toks:=s.toks+1}) (PySem.W.looks_clsIn X hc) ?_;rw[hd'];refine Z8 (a:=Wb dx)<|Z0<|Z8<|Z0 ?_;refine wpAny_nsSet1 (s:={s with toks:=s.toks+1}) I.ns λh' hn2 hs2=>?_;obtain⟨oD,esD,epD,hoD,hdD,hcD⟩:=hn2.count<|PySem.Within.cons name v hw;refine Z0<|wpAny_lookBehind hoD (by rw[hdD];exact pastItsLine_dict<|aO hcD (by rw[X2];lia)) ?_;exact Z8<|h _ ⟨(hs2.2 _<|V8 I.ne).trans I.obj,hn2,I.ne⟩ hs2
def AN{R:Vr->Ww->Prop}(X:K.In s.heap)(hm:PySem.W.makesIn K C=Wd)(hi:P0 K (.ref C) "__init__"=Wb (Wb<|.ref f))(hf:PySem.W.typeIn K (.ref f)=Wb (.type "function"))(h:D4 (WA prog w) (A.under<|.builtin "type.__call__" ⟨.ref C ::vs,kw⟩) (.call (.ref f) ⟨.ref (s.heap.objs.size+1) ::vs,kw⟩) (PySem.W.InitBack (s.heap.objs.size+1) R)
   {s with heap:=(s.heap.push O7).push (K7 C s.heap.objs.size)}):
  D4 (WA prog w) A (.call (.ref C) ⟨vs,kw⟩) R s:=by
 obtain⟨hh,g,d,t,os⟩:=s;exact PySem.W.make_core (PySem.W.makes_of X hm) (PySem.W.looks_findIn X hi) (λself=>PySem.W.bind_fn X self hf) (.inl rfl) h
end
def dN(f:Str)(v:V):List (Str×V)->List (Str×V)
 |[]=>[(f,v)]
 |(g,x) ::r=>if g=f then (g,v) ::r else (g,x) ::dN f v r
def uf(f g:Str)(v:V):∀fs:List (Str×V),(dN f v fs).lookup g=if g=f then Wb v else fs.lookup g:=by
 intro fs;induction fs with
 |nil =>
  show O8 g [(f,v)]=_;by_cases h:g=f
  ·have hb:(g==f)=Wd:=beq_iff_eq.mpr h;simp only[O8,hb,VP h]
  ·have hb:(g==f)=We:=beq_eq_false_iff_ne.mpr h;simp only[O8,hb,VQ h]
 |cons p r ih =>
  cases p with|mk k x=>?_;rw[show dN f v ((k,x) ::r)=(if k=f then (k,v) ::r else (k,x) ::dN f v r) from rfl];by_cases hk:k=f
  ·rw[VP hk];by_cases h:g=k
   ·have hb:(g==k)=Wd:=beq_iff_eq.mpr h;simp only[O8,hb,VP (h.trans hk)]
   ·have hb:(g==k)=We:=beq_eq_false_iff_ne.mpr h;simp only[O8,hb,VQ fun e:g=f=>h<|e.trans hk.symm]
  ·rw[VQ hk];by_cases h:g=k
   ·have hb:(g==k)=Wd:=beq_iff_eq.mpr h;simp only[O8,hb,VQ fun e:g=f=>hk<|h.symm.trans e]
   ·have hb:(g==k)=We:=beq_eq_false_iff_ne.mpr h;simp only[O8,hb];exact ih
def qU(f:Str)(v:V):∀fs:List (Str×V),f∈(dN f v fs).map (·.1)/\∀g,g∈fs.map (·.1)->g∈(dN f v fs).map (·.1):=by
 intro fs;induction fs with
 |nil=>exact⟨Y5,λg h=>nomatch h⟩
 |cons p r ih =>
  cases p with|mk k x=>?_;obtain⟨i1,i2⟩:=ih;rw[show dN f v ((k,x) ::r)=(if k=f then (k,v) ::r else (k,x) ::dN f v r) from rfl];by_cases hk:k=f
  ·rw[VP hk];subst hk;exact⟨by simp,λg h=>by simpa using h⟩
  ·rw[VQ hk];refine⟨?_,λg h=>?_⟩
   ·rw[V7];exact Y8 _ i1
   ·rw[V7]at h ⊢;rcases Y1.mp h with e|e
    ·exact Y1.mpr<|.inl e
    ·exact Y8 _<|i2 g e
def ug(f:Str)(v:V):∀fs:List (Str×V),(dN f v fs).length<=fs.length+1:=by
 intro fs;induction fs with
 |nil=>exact bW _
 |cons p r ih =>
  cases p with|mk k x=>?_;rw[show dN f v ((k,x) ::r)=(if k=f then (k,v) ::r else (k,x) ::dN f v r) from rfl];by_cases hk:k=f
  ·rw[VP hk,X2,X2];lia
  ·rw[VQ hk,X2,X2];lia
def ji.some_of(r:ji (Wb v) o):∃u,o=Wb u/\RelV v u:=by
 cases o with
 |none=>exact(show False from r).elim
 |some u=>exact⟨u,rfl,r⟩
def ji.none_of(r:ji Wc o):o=Wc:=by
 cases o with
 |none=>rfl
 |some u=>exact(show False from r).elim
def zc(r:RelV v u):PySem.W.handedIn u=Wd:=by
 cases v with
 |non=>cases (show u=J9 from r);rfl
 |bl b=>cases (show u=Value.bool b from r);rfl
 |int i=>obtain⟨t,e⟩:=(show ∃t,u=P3 i t from r);cases e;rfl
 |str x=>obtain⟨t,e⟩:=(show ∃t,u=Value.str x t from r);cases e;rfl
 |byt b=>obtain⟨t,e⟩:=(show ∃t,u=Value.bytes b t from r);cases e;rfl
 |flt b=>obtain⟨t,e⟩:=(show ∃t,u=Value.float b t from r);cases e;rfl
 |ref a=>cases (show u=U6 a from r);rfl
 |ty n=>cases (show u=Value.type n from r);rfl
section
variable {P:W7}{w:WB}{H:Hp}{h:WD}{a C dx:Wy}{fs:List (Str×V)}
theorem o6(hok:l7 P w H h)(e:H a=Wb (.ins C dx fs)):∃mA,ObjM h a dx C mA/\(∀f,ji (fs.lookup f) (mA f))/\PySem.Within mA (fs.map (·.1))/\fs.length<=1000/\H dx=Wb (.own a):=by obtain⟨d,z,ne,ob,mA,n,r,q⟩:=(show bA P w H h a (.ins C dx fs) from hok a _ e);exact⟨mA,⟨ob,n,ne⟩,r,q,z,d⟩
end
structure Cls(K:Z1)(C:Wy):Prop where
 pg:PySem.W.plainGet K C Str.empty=Wd
 hd:PySem.W.hasDictIn K C=Wd
 po:PySem.W.plainOver K C=Wd
 sa:P0 K (.ref C) "__setattr__"=Wb (Wb<|.builtin "object.__setattr__")
def Cls.get{K:Z1}(c:Cls K C)(f:Str):PySem.W.plainGet K C f=Wd:=c.pg
def cy(K:Z1)(C:Wy)(f:Str):Prop:=P0 K (.ref C) f=Wb Wc
def cy.taker{K:Z1}(n:cy K C f):PySem.W.takerIn K C f=Wb Wc:=by unfold PySem.W.takerIn;rw[show P0 K (.ref C) f=Wb Wc from n];rfl
structure Meth(K:Z1)(C:Wy)(m:Str)(f:Wy):Prop where
 at_:P0 K (.ref C) m=Wb (Wb<|.ref f)
 fn:PySem.W.isFn K (.ref f)=Wd
 kp:P1 K (.ref f)=Wd
section
variable {X:Cx}{ZY:ZN}{σ:St}{H:Hp}{s:Ww}{a C dx:Wy}{fs:List (Str×V)}{f:Str}{v:V}{A:WE}{E:ZU}
theorem we{Q:ZU}(I:Inv X ZY σ H s)(e:H a=Wb (.ins C dx fs))(c:Cls X.K C)(n:cy X.K C f)(l:fs.lookup f=Wb v)(h:∀u s',Inv X ZY σ H s'->RelV v u->Q u s'):Wz (WA X.prog X.w) A (getAttr (.ref a) f b) Q E s:=by obtain⟨mA,O,r,_,_,_⟩:=o6 I.hok e;obtain⟨u,hu,ru⟩:=ji.some_of (v:=v) (o:=mA f) (by rw[<- l];exact r f);exact get_map I.kIn O (c.get f) c.hd n hu (zc ru)<|h u _ (I.tok _) ru
theorem oQ{Q:Wx×List Wx->Ww->Prop}(I:Inv X ZY σ H s)(e:H a=Wb (.ins C dx fs))(c:Cls X.K C)(k:Meth X.K C m g)(l:fs.lookup m=Wc)(h:Q (.ref g,[.ref a]) s):Wz (WA X.prog X.w) A (Vu (.ref a) m pl) Q E s:=by obtain⟨mA,O,r,_,_,_⟩:=o6 I.hok e;have hn:mA m=Wc:=ji.none_of (by rw[<- l];exact r m);exact AM I.kIn O (c.get m) k.at_ k.fn hn h
theorem wf{Q:Unit->Ww->Prop}(I:Inv X ZY σ H s)(e:H a=Wb (.ins C dx fs))(c:Cls X.K C)(n:cy X.K C f)(hl:fs.length<1000)(ry:RelV y u)(h:∀s',Inv X ZY σ (aB H a<|.ins C dx<|dN f y fs) s'->Q () s'):Wz (WA X.prog X.w) A (setAttr (.ref a) f u) Q E s:=by
 obtain⟨mA,O,r,wi,_,ho⟩:=o6 I.hok e;have hz:(fs.map (·.1)).length<=W0:=by rw[Z5,V0];lia
 refine set_map I.kIn O c.sa c.po n.taker c.hd wi hz λh' O' sb=>h _ ?_;have hd:∃o,h'.get? dx=Wb o:=oq32 O'.ns λo i i e' i=>⟨o,e'⟩;refine I.write (x:=a) (e:=dx) (by rw[e];exact K8) (.inr ho) (λb q hb z=>(sb.2 b hb).trans z) hd ?_;refine⟨by rw[ah O.ne];exact ho,?_,O.ne,O'.obj,_,O'.ns,λg=>?_,λg hg=>?_⟩
 ·have:=ug f y fs;lia
 ·show ji ((dN f y fs).lookup g) (if g=f then Wb u else mA g);rw[uf];by_cases q:g=f
  ·rw[VP q,VP q];exact ry
  ·rw[VQ q,VQ q];exact r g
 ·by_cases q:g=f
  ·rw[q];exact(qU f y fs).1
  ·refine(qU f y fs).2 g (wi g λz=>hg ?_);show (if g=f then Wb u else mA g)=Wc;rw[VQ q];exact z
theorem Inv.made(I:Inv X ZY σ H s):Inv X ZY σ (aB (aB H s.heap.objs.size<|.own<|s.heap.objs.size+1) (s.heap.objs.size+1)<|.ins C s.heap.objs.size [])
  {s with heap:=(s.heap.push O7).push (K7 C s.heap.objs.size)}:=by
 have e1:(s.heap.push O7).get? s.heap.objs.size=Wb O7:=Y7 s.heap rfl;have e2:((s.heap.push O7).push (K7 C s.heap.objs.size)).get? (s.heap.objs.size+1)=Wb (K7 C s.heap.objs.size):=by
  have:=Y7 (s.heap.push O7) (o:=K7 C s.heap.objs.size) rfl
  rwa [N6]at this
 have e3:(s.heap.push O7).Ns s.heap.objs.size (λx=>Wc):=⟨O7,#[],_,e1,rfl,(λe he=>VR he (by simp)),λx=>rfl⟩;have I1:=I.laid (a:=s.heap.objs.size) (o:=.own<|s.heap.objs.size+1) (h':=s.heap.push O7) (t':=s.toks) (λb u q=>Z2 _ q) (bW _) ⟨_,e1⟩;refine I1.laid (a:=s.heap.objs.size+1) (o:=.ins C s.heap.objs.size []) (t':=s.toks) (λb u q=>Z2 _ q) (bK<|N6 _ _) ?_;have ne:s.heap.objs.size≠s.heap.objs.size+1:=eP<|V3 _;refine⟨by rw[ah ne,ae],U2 _,ne,e2,λx=>Wc,(Heap.Ns1.of_empty e3).at λo q=>Z2 _ q,λx=>K8,λy hy=>VR rfl hy⟩
theorem attr_of{Q:ZU}(hb:J5 e f env (WF e env)=WF e env)(h:Wz (WA prog w) A (WF e env) (λo s₁=>Wz (WA prog w) A (getAttr o f Wd) Q E s₁) E s):Wz (WA prog w) A (WF (.Attribute e f pos) env) Q E s :=
 Attribute_any_ h (by rw[arm_eval_Attribute,hb])
end
def gD(K:Z1)(ta:TE)(f:Str):TE:=λσ H Q=>ta σ H λx H1=>∃a C dx fs v,x=.ref a/\H1 a=Wb (.ins C dx fs)/\Cls K C/\cy K C f/\fs.lookup f=Wb v/\Q v H1
def lA(K:Z1)(ta tv:TE)(f:Str):TS:=λD σ H=>tv σ H λy H1=>ta σ H1 λx H2=>∃a C dx fs,x=.ref a/\H2 a=Wb (.ins C dx fs)/\Cls K C/\cy K C f/\fs.length<1000 /\
 D.nx σ (aB H2 a<|.ins C dx<|dN f y fs)
section
variable {X:Cx}{o e value:WC}{f:Str}{pos Ws:Pos}{ta tv:TE}
def pe_fld(he:PE X e ta)(hb:J5 e f X.env (WF e X.env)=WF e X.env):PE X (.Attribute e f pos) (gD X.K ta f):=by intro ZY s σ H Q I h;refine attr_of hb (bI (he ZY s σ H _ I h) λu s1 ⟨x,H1,I1,rx,a,C,dx,fs,v,ex,ea,c,n,l,q⟩=>?_);subst ex;obtain rfl:u=U6 a:=rx;exact we I1 ea c n l λu' s2 I2 ru=>⟨v,H1,I2,ru,q⟩
def gn(ha:PE X o ta)(hv:PE X value tv)(hs:Vt value (Wb<|.Attribute o f Ws) pos.line X.env=pure We):PS X (.Assign [.Attribute o f Ws] value pos) (lA X.K ta tv f):=by intro ZY s σ H D I h;refine plainObj_wpAny_Assign_Attribute (bI (hv ZY s σ H _ I h) λu s1 ⟨y,H1,I1,ry,q⟩=>bI (ha ZY s1 σ H1 _ I1 q) λov s2 ⟨x,H2,I2,rx,a,C,dx,fs,ex,ea,c,n,l,q2⟩=>?_) hs;subst ex;obtain rfl:ov=U6 a:=rx;exact wf I2 ea c n l ry λs3 I3=>⟨σ,_,I3,q2⟩
end
section
variable {X:Cx}{ZY:ZN}{σ:St}{H:Hp}{s:Ww}{A:WE}{E:ZU}{Q:ZU}{c:Wx}{b:Bool}
inductive TyOf(K:Z1)(H:Hp):V->Wx->Prop where
 |non:TyOf K H .non (.type "NoneType")
 |bl (x:Bool):TyOf K H (.bl x) (.type "bool")
 |int (i:Int):TyOf K H (.int i) (.type "int")
 |str (x:Str):TyOf K H (.str x) (.type "str")
 |flt (x:UInt64):TyOf K H (.flt x) (.type "float")
 |lst {a:Wy} {xs:List V} (e:H a=Wb (.lst xs)):TyOf K H (.ref a) (.type "list")
 |frz {a:Wy} {o:Obj} {xs:List V} (e:H a=Wb (.frz o<|.lst xs)):TyOf K H (.ref a) (.type "list")
 |tup {a:Wy} {xs:List V} (e:H a=Wb (.tup xs)):TyOf K H (.ref a) (.type "tuple")
 |dK {a:Wy} {kvs:List (Key×V)} (e:H a=Wb (.dK kvs)):TyOf K H (.ref a) (.type "dict")
 |dT {a:Wy} {kvs:List (List Key×V)} (e:H a=Wb (.dT kvs)):TyOf K H (.ref a) (.type "dict")
 |ins {a C dx:Wy} {fs:List (Str×V)} (e:H a=Wb (.ins C dx fs)) (cl:Cls K C) (ha:P0 K (.ref C) "__class__"=Wb (Wb<|.builtin "object.__class__"))
   (hn:PySem.W.specialIn K (.builtin "object.__class__") "__get__"=Wb (Wb<|.builtin "getset_descriptor.__get__")) (htk:PySem.W.takesIn K (.builtin "object.__class__")=Wb Wd)
   (hm:PySem.W.mroIn K C (.type "object")=Wb Wd):TyOf K H (.ref a) (.ref C)
def zd(I:Inv X ZY σ H s)(rx:RelV x u)(ty:TyOf X.K H x t)(e:Q5 X.K t c=Wb b)(h:∀tk,Q (.bool b) {s with toks:=tk}):
  Wz (WA X.prog X.w) A (call (.builtin "isinstance") [u,c]) Q E s:=by
 cases ty with
 |non=>cases (show u=J9 from rx);exact O0 PySem.W.kitx_none I.kIn K8 e (λz=>nomatch z) h
 |bl y=>cases (show u=Value.bool y from rx);exact O0 PySem.W.kitx_bool I.kIn K8 e (λz=>nomatch z) h
 |int i=>obtain⟨t,q⟩:=(show ∃t,u=P3 i t from rx);cases q;exact O0 PySem.W.kitx_int I.kIn K8 e (λz=>nomatch z) h
 |str y=>obtain⟨t,q⟩:=(show ∃t,u=Value.str y t from rx);cases q;exact O0 PySem.W.kitx_str I.kIn K8 e (λz=>nomatch z) h
 |flt y=>obtain⟨t,q⟩:=(show ∃t,u=Value.float y t from rx);cases q;exact O0 PySem.W.kitx_float I.kIn K8 e (λz=>nomatch z) h
 |@lst a xs ea =>cases (show u=U6 a from rx);obtain⟨_,_,n,_,h1⟩:=(show bA X.prog X.w H s.heap a (.lst xs) from I.hok a _ ea);exact O0 PySem.W.kitx_list I.kIn ⟨_,h1,rfl⟩ e (λz=>nomatch z) h
 |@frz a ob xs ea =>cases (show u=U6 a from rx);obtain⟨_,_,_,n,_,h1⟩:=(show bA X.prog X.w H s.heap a (.frz ob<|.lst xs) from I.hok a _ ea);exact O0 PySem.W.kitx_list I.kIn ⟨_,h1,rfl⟩ e (λz=>nomatch z) h
 |@tup a xs ea =>cases (show u=U6 a from rx);obtain⟨_,_,_,p⟩:=(show bA X.prog X.w H s.heap a (.tup xs) from I.hok a _ ea);obtain⟨o,h1,h2,_⟩:=p;exact O0 PySem.W.kitx_tuple I.kIn ⟨o,h1,h2⟩ e (λz=>nomatch z) h
 |@dK a kvs ea =>cases (show u=U6 a from rx);obtain⟨_,_,vs,_,p⟩:=(show bA X.prog X.w H s.heap a (.dK kvs) from I.hok a _ ea);obtain⟨o,es,ep,h1,h2,_⟩:=p;exact O0 PySem.W.kitx_dict I.kIn ⟨o,h1,h2.1⟩ e (λz=>nomatch z) h
 |@dT a kvs ea =>cases (show u=U6 a from rx);obtain⟨_,_,xs,_,o,es,ep,h1,h2,_⟩:=(show bA X.prog X.w H s.heap a (.dT kvs) from I.hok a _ ea);exact O0 PySem.W.kitx_dict I.kIn ⟨o,h1,h2.1⟩ e (λz=>nomatch z) h
 |@ins a C dx fs ea cl ha hn htk hm =>cases (show u=U6 a from rx);obtain⟨mA,O,_⟩:=o6 I.hok ea;obtain⟨od,J,_⟩:=O.look;exact O0 (PySem.W.kitx_own (cl.get _) cl.hd ha hn htk hm) I.kIn J e (λz=>nomatch z) h
end
structure Room(k:Nat)(A:WE):Prop where
 hd:A.handled=Wc
 dp:A.depth+3*k+5<E7
 un:A.units+16*k+200<WO
def Room.mono(r:Room k A)(h:j<=k):Room j A:=⟨r.hd,by have:=r.dp;lia,by have:=r.un;lia⟩
def Room.deeper(r:Room (k+1) A)(env:Env):Room k (A.deeper env) :=
 ⟨r.hd,by have:=r.dp;show A.depth+1+3*k+5<_;lia,by have:=r.un;show A.units+3+16*k+200<_;lia⟩
def Room.in1(r:Room (k+1) A):Room k A.in1 :=
 ⟨r.hd,by have:=r.dp;show A.depth+3*k+5<_;lia,by have:=r.un;show A.units+1+16*k+200<_;lia⟩
def wg{A:WE}:(A.under<|.builtin "type.__call__" ⟨.ref C ::us,kw⟩).depth=A.depth+1:=by
 first|rfl|simp[Around.under,Code.weight,Code.isCreation,Code.isGuard,Code.isCaller,Code.frames,Code.isFrame,guardIds]
def wj{A:WE}:(A.under<|.builtin "type.__call__" ⟨.ref C ::us,kw⟩).units=A.units+1:=by
 first|rfl|simp[Around.under,Code.cUnits,Code.frames,Code.isFrame]
def Room.make(r:Room (k+1) A)(C:Wy)(us:ZO)(kw:Zk):Room k (A.under<|.builtin "type.__call__" ⟨.ref C ::us,kw⟩) :=
 ⟨r.hd,by have:=r.dp;rw[wg];omega,by have:=r.un;rw[wj];omega⟩
def Room.depth(r:Room k A):A.depth<E7:=by have:=r.dp;omega
def Room.units(r:Room k A):A.units+64<WO:=by have:=r.un;lia
def bL:TA:=λx H Q=>Q [] H
def aK(ta:TE)(tr:TA):TA:=λσ H Q=>ta σ H λx H1=>tr σ H1 λxs H2=>Q (x ::xs) H2
section
variable {X:Cx}{e:WC}{es:List WC}{te:TE}{t:TA}{pos:Pos}
def eQ:PA X [] bL:=λx x x x H Q I h=>Calls.spliced_nil ⟨[],H,I,.nil,h⟩
def aa(ha:PE X e te)(hr:PA X es t)(hs:autoParam (X5 (e ::es) X.env=(We,WF e X.env) ::X5 es X.env) cV._auto_1):PA X (e ::es) (aK te t):=by intro pos ZY s σ H Q I h;rw[hs];show Wz _ _ (spliced ((We,WF e X.env) ::WI pos (X5 es X.env))) _ _ s;refine Calls.spliced_cons (bI (ha ZY s σ H _ I h) λu s1 ⟨x,H1,I1,r1,q1⟩=>?_);exact bI (hr pos ZY s1 σ H1 _ I1 q1) λus s2 ⟨xs,H2,I2,r2,q2⟩=>⟨x ::xs,H2,I2,.cons r1 r2,q2⟩
def tTup(t:TA):TE:=λσ H Q=>t σ H λxs H1=>xs.length<=W0/\∀p,H1 p=Wc->Q (.ref p) (aB H1 p<|.tup xs)
def tLst(t:TA):TE:=λσ H Q=>t σ H λxs H1=>xs.length<=W0/\∀p,H1 p=Wc->Q (.ref p) (aB H1 p<|.lst xs)
def gp{x1}(h:PA X es t):PE X (.Tuple es x1 pos) (tTup t):=by intro ZY s σ H Q I hq;refine wpAny_Tuple_spliced (bI (h pos ZY s σ H _ I hq) λus s1 ⟨xs,H1,I1,r,z,q⟩=>⟨by rw[<- r.length];exact z,?_⟩);have hf:H1 s1.heap.objs.size=Wc:=I1.hok.fresh<|bW _;refine⟨.ref s1.heap.objs.size,aB H1 s1.heap.objs.size<|.tup xs,I1.laid (t':=s1.toks) (λb u e=>Z2 _ e) (bW _) ?_,rfl,q _ hf⟩;exact⟨z,us,r,⟨_,Y7 _ rfl,rfl,_,rfl⟩⟩
def cL(h:PA X es t):PE X (.List es pos) (tLst t):=by intro ZY s σ H Q I hq;refine wpAny_List_spliced (bI (h pos ZY s σ H _ I hq) λus s1 ⟨xs,H1,I1,r,z,q⟩=>⟨by rw[<- r.length];exact z,?_⟩);have hf:H1 s1.heap.objs.size=Wc:=I1.hok.fresh<|bW _;refine⟨.ref s1.heap.objs.size,aB H1 s1.heap.objs.size<|.lst xs,I1.laid (t':=s1.toks) (λb u e=>Z2 _ e) (bW _) ?_,rfl,q _ hf⟩;exact⟨z,us,0,r,Y7 _ rfl⟩
end
abbrev Sp:=List V->Hp->VK->XK->Prop
abbrev CXT:=List Env->Hp->Ww->XK->Wx->Ww->Prop
structure Env0(P:W7)(w:WB)(K:Z1)(mg:ZM)(base:WD)(A:WE)(outer:List Env)(s:Ww)(H:Hp):Prop where
 frames:A.frames=Wb outer
 mod:Mod K mg base
 bs:∀b o,base.get? b=Wb o->s.heap.get? b=Wb o/\H b=Wc
 bsz:base.objs.size<=s.heap.objs.size
 funs:s.heap.FunFrames base outer
 frf:∀b∈Az outer,H b=Wc
 hok:l7 P w H s.heap
 bare:VI s.gens
def CE(outer:List Env)(P:W7)(w:WB)(H:Hp)(s:Ww)(Q:VK)(u:Wx)(s':Ww):Prop :=
 ∃v H',s'.os=s.os/\VI s'.gens/\Un (Az outer) [] H H' s.heap s'.heap/\l7 P w H' s'.heap/\RelV v u/\Q v H'
def CR(CX:CXT)(outer:List Env)(P:W7)(w:WB)(H:Hp)(s:Ww)(Q:VK)(E:XK)(r:Vr)(s':Ww):Prop :=
 match r with
 |.ok (.ret u)=>CE outer P w H s Q u s'
 |.ok _=>False
 |.error e=>CX outer H s E e s'
structure FnOk(P:W7)(w:WB)(K:Z1)(mg:ZM)(base:WD)(CX:CXT)(k:Nat)(f:Wy)(fd:Vm)(ps:ZL)(sp:Sp):Prop where
 len:∀vs H Q E,sp vs H Q E->vs.length=ps.length
 run:∀(A:WE) (outer:List Env) (s:Ww) (H:Hp) (args:Args) (us:ZO) (vs:List V) (Q:VK) (E:XK),Room k A->Env0 P w K mg base A outer s H->BindsTo s fd args (ps.zip us)->aS vs us->sp vs H Q E ->
  D4 (WA P w) A (.call (.ref f) args) (CR CX outer P w H s Q E) s
def Env0.make{K:Z1}{mg:ZM}(e:Env0 P w K mg base A outer s H)(C:Wy)(us:ZO)(kw:Zk):
  Env0 P w K mg base (A.under<|.builtin "type.__call__" ⟨.ref C ::us,kw⟩) outer s H:=⟨by first|exact e.frames|(simpa [Around.under,Code.envs,Code.isFrame,pushEnvs] using e.frames),e.mod,e.bs,e.bsz,e.funs,e.frf,e.hok,e.bare⟩
section
variable {X:Cx}{ZY:ZN}{σ:St}{H:Hp}{s s':Ww}
def Inv.env0(I:Inv X ZY σ H s):Env0 X.prog X.w X.K X.mg X.base X.A X.stack s H :=
 ⟨I.ok.frames,I.ok.mod,I.bs,aO I.ok.bsz I.sz,I.stack,I.stkFree,I.hok,I.bare⟩
def Inv.after(I:Inv X ZY σ H s)(h:CE X.stack X.prog X.w H s Q u s'):EP X ZY σ Q u s':=by obtain⟨v,H',os,bare,un,hok,r,q⟩:=h;obtain⟨hh,g,d,t,os'⟩:=s';obtain rfl:os'=s.os:=os;exact⟨v,H',I.call (h':=hh) (g':=g) (d':=d) (t':=t) (ch:=[]) un hok bare λb z=>VR z (by simp),r,q⟩
end
def lB(sp:Sp)(dvs:List V)(E:XK)(t:TA):TE:=λσ H Q=>t σ H λvs H1=>sp (vs++dvs) H1 Q E
def fF(C:Wy)(m:Str)(sp:Sp)(dvs:List V)(E:XK)(ta:TE)(t:TA):TE:=λσ H Q=>ta σ H λx H1=>∃a dx fs,x=.ref a/\H1 a=Wb (.ins C dx fs)/\fs.lookup m=Wc /\
 t σ H1 λvs H2=>sp (x ::(vs++dvs)) H2 Q E
def ki(C:Wy)(sp:Sp)(dvs:List V)(E:XK)(t:TA):TE:=λσ H Q=>t σ H λvs H1=>∀x dx,H1 x=Wc->H1 dx=Wc->dx≠x ->
 sp (.ref x ::(vs++dvs)) (aB (aB H1 dx<|.own x) x<|.ins C dx []) (λv H2=>v=.non/\Q (.ref x) H2) E
def Binds(K:Z1)(fd:Vm)(ps:ZL)(ds:ZO):Prop :=
 ∀(s:Ww) (us:ZO),K.In s.heap->(us++ds).length=ps.length->BindsTo s fd ⟨us,[]⟩ (ps.zip<|us++ds)
def Binds.all{K:Z1}(h:∀us:List Wx,us.length=ps.length->E8 fd ⟨us,[]⟩=pure (ps.zip us)):Binds K fd ps []:=λs us x hl=>by rw[V2]at hl ⊢;exact .of_eq<|h us hl
def kD(CX:CXT)(X:Cx)(E:XK):Prop:=∀(ZY:ZN) (σ:St) (H:Hp) (s:Ww) (e:Wx) (s':Ww),Inv X ZY σ H s->CX X.stack H s E e s'->X.xe e s'
section
variable {X:Cx}{CX:CXT}{k:Nat}{f C:Wy}{fd:Vm}{ps:ZL}{sp:Sp}{dvs:List V}{ds:ZO}{E:XK}{x m:Str}{p pos Wq:Pos}{e o:WC}{es:List WC}{ta:TE}{t:TA}
def wm{σ:St}(F:FnOk X.prog X.w X.K X.mg X.base CX k f fd ps sp)(hr:Room k X.A)(hb:Binds X.K fd ps ds)(hd:aS dvs ds)(hx:kD CX X E)(I:Inv X ZY σ H s)(r:aS vs us)(h:sp (vs++dvs) H Q E):Wz (WA X.prog X.w) X.A (call (.ref f) us) (EP X ZY σ Q) X.xe s:=by
 have r2:aS (vs++dvs) (us++ds):=r.append hd;have hl:(us++ds).length=ps.length:=by rw[<- r2.length];exact F.len _ _ _ _ h
 refine wpAny_call (D5 (F.run X.A X.stack s H ⟨us,[]⟩ (us++ds) (vs++dvs) Q E hr I.env0 (hb s us I.kIn hl) r2 h) λr s' hq=>?_);cases r with
 |error e=>exact hx ZY σ H s e s' I hq
 |ok fl =>
  cases fl with
  |ret u=>exact I.after hq
  |next=>exact O4 hq
  |brk=>exact O4 hq
  |cont=>exact O4 hq
def pe_call(F:FnOk X.prog X.w X.K X.mg X.base CX k f fd ps sp)(hr:Room k X.A)(hg:Gl X x)(hm:X.mg x=Wb (.ref f))(hk:P1 X.K (.ref f)=Wd)(hb:Binds X.K fd ps ds)(hd:aS dvs ds)(hx:kD CX X E)(ha:PA X (e ::es) t)(hdb:autoParam ((x==("__debug__":Str))=We) gR._auto_1)(he:autoParam (X5 (e ::es) X.env=(We,WF e X.env) ::X5 es X.env) cV._auto_1)(hpl:autoParam ((WI pos<|X5 es X.env).any (·.1)=We) cV._auto_1):
  PE X (.Call (.Name x p) (e ::es) [] pos) (lB sp dvs E t):=by
 intro ZY s σ H Q I h;refine L7<|xN I hg hm ?_ hdb;refine PySem.W.callWith_K (h₀:=X.base) I.ok.mod.kin hk (bI (ha pos ZY s σ H _ I h) λus s1 ⟨vs,H1,I1,r,q⟩=>⟨I1.kIn,?_⟩) he hpl;exact wm F hr hb hd hx I1 r q
def pe_meth{pl:Sem Bool}(he:PE X o ta)(c:Cls X.K C)(hm:Meth X.K C m f)(F:FnOk X.prog X.w X.K X.mg X.base CX k f fd ps sp)(hr:Room k X.A)(hb:Binds X.K fd ps ds)(hd:aS dvs ds)(hx:kD CX X E)(ha:PA X (e ::es) t)(hst:autoParam (X5 (e ::es) X.env=(We,WF e X.env) ::X5 es X.env) cV._auto_1)(hpl:autoParam ((WI pos<|X5 es X.env).any (·.1)=We) cV._auto_1)(ht:WF (.Call (.Attribute o m Wq) (e ::es) [] pos) X.env=(do
   let ov <- WF o X.env
   Vk Wq.atName
   let (f,first) <- WM [ov] (Vu ov m pl)
   callWith pos f first (WI pos<|X5 (e ::es) X.env) (Vv pos<|WW [] X.env)):=by rfl):
  PE X (.Call (.Attribute o m Wq) (e ::es) [] pos) (fF C m sp dvs E ta t):=by
 intro ZY s σ H Q I h;refine PySem.W.methodCall_KW (pl:=pl) (bI (he ZY s σ H _ I h) λu s1 ⟨x,H1,I1,rx,a,dx,fs,ex,ea,l,q⟩=>?_) ht;subst ex;obtain rfl:u=U6 a:=rx;refine oQ I1 ea c hm l ?_;refine PySem.W.callWith_K (first:=[.ref a]) (h₀:=X.base) I.ok.mod.kin hm.kp (bI (ha pos ZY s1 σ H1 _ I1 q) λus s2 ⟨vs,H2,I2,r,q2⟩=>⟨I2.kIn,?_⟩) hst hpl;exact wm (us:=.ref a ::us) (vs:=.ref a ::vs) F hr hb hd hx I2 (.cons rfl r) q2
def AO{pl:Sem Bool}(he:PE X o ta)(c:Cls X.K C)(hm:Meth X.K C m f)(F:FnOk X.prog X.w X.K X.mg X.base CX k f fd ps sp)(hr:Room k X.A)(hb:Binds X.K fd ps ds)(hd:aS dvs ds)(hx:kD CX X E)(ht:WF (.Call (.Attribute o m Wq) [] [] pos) X.env=(do
   let ov <- WF o X.env
   Vk Wq.atName
   let (f,first) <- WM [ov] (Vu ov m pl)
   callWith pos f first (WI pos<|X5 [] X.env) (Vv pos<|WW [] X.env)):=by rfl):
  PE X (.Call (.Attribute o m Wq) [] [] pos) (fF C m sp dvs E ta bL):=by
 intro ZY s σ H Q I h;refine PySem.W.methodCall_KW (pl:=pl) (bI (he ZY s σ H _ I h) λu s1 ⟨x,H1,I1,rx,a,dx,fs,ex,ea,l,q⟩=>?_) ht;subst ex;obtain rfl:u=U6 a:=rx;refine oQ I1 ea c hm l ?_;exact PySem.W.callWith_K0 (first:=[.ref a]) I1.kIn hm.kp<|wm (us:=[.ref a]) (vs:=[.ref a]) F hr hb hd hx I1 (.cons rfl .nil) q
structure Mk(K:Z1)(C f:Wy):Prop where
 makes:PySem.W.makesIn K C=Wd
 init:P0 K (.ref C) "__init__"=Wb (Wb<|.ref f)
 fn:PySem.W.isFn K (.ref f)=Wd
 kp:P1 K (.ref C)=Wd
def AQ{σ:St}(M:Mk X.K C f)(F:FnOk X.prog X.w X.K X.mg X.base CX k f fd ps sp)(hr:Room (k+1) X.A)(hb:Binds X.K fd ps ds)(hd:aS dvs ds)(hx:kD CX X E)(I:Inv X ZY σ H s)(r:aS vs us)(h:∀x dx,H x=Wc->H dx=Wc->dx≠x->sp (.ref x ::(vs++dvs)) (aB (aB H dx<|.own x) x<|.ins C dx []) (λv H2=>v=.non/\Q (.ref x) H2) E):
  Wz (WA X.prog X.w) X.A (call (.ref C) us) (EP X ZY σ Q) X.xe s:=by
 have hq:=h (s.heap.objs.size+1) s.heap.objs.size (I.hok.fresh<|R6 _) (I.hok.fresh<|bW _)<|eP<|V3 _;have I2:=Inv.made (C:=C) I;have r2:aS (V.ref (s.heap.objs.size+1) ::(vs++dvs)) (U6 (s.heap.objs.size+1) ::(us++ds)):=.cons rfl<|r.append hd;have hl:(U6 (s.heap.objs.size+1) ::us++ds).length=ps.length:=by have e:=r2.length;rw[F.len _ _ _ _ hq]at e;exact e.symm
 refine wpAny_call (AN (f:=f) I.kIn M.makes M.init (beq_iff_eq.mp M.fn) (D5 (F.run _ X.stack _ _ ⟨U6 (s.heap.objs.size+1) ::us,[]⟩ (U6 (s.heap.objs.size+1) ::(us++ds)) _ _ E (hr.make C us [])
  (I2.env0.make C us []) (hb _ (U6 (s.heap.objs.size+1) ::us) I2.kIn hl) r2 hq) λr s' hq'=>?_))
 cases r with
 |error e=>exact hx ZY σ _ _ e s' I2 hq'
 |ok fl =>
  cases fl with
  |ret u =>obtain⟨v,H',I3,rv,rfl,q3⟩:=I2.after hq';exact⟨rv,⟨V.ref<|s.heap.objs.size+1,H',I3,rfl,q3⟩⟩
  |next=>exact O4 hq'
  |brk=>exact O4 hq'
  |cont=>exact O4 hq'
def sw(M:Mk X.K C f)(F:FnOk X.prog X.w X.K X.mg X.base CX k f fd ps sp)(hr:Room (k+1) X.A)(hg:Gl X x)(hm:X.mg x=Wb (.ref C))(hb:Binds X.K fd ps ds)(hd:aS dvs ds)(hx:kD CX X E)(ha:PA X (e ::es) t)(hdb:autoParam ((x==("__debug__":Str))=We) gR._auto_1)(he:autoParam (X5 (e ::es) X.env=(We,WF e X.env) ::X5 es X.env) cV._auto_1)(hpl:autoParam ((WI pos<|X5 es X.env).any (·.1)=We) cV._auto_1):
  PE X (.Call (.Name x p) (e ::es) [] pos) (ki C sp dvs E t):=by
 intro ZY s σ H Q I h;refine L7<|xN I hg hm ?_ hdb;refine PySem.W.callWith_K (h₀:=X.base) I.ok.mod.kin M.kp (bI (ha pos ZY s σ H _ I h) λus s1 ⟨vs,H1,I1,r,q⟩=>⟨I1.kIn,?_⟩) he hpl;exact AQ M F hr hb hd hx I1 r q
end
structure FnScope(N P:ZL)(sc:WY):Prop where
 kind:sc.kind=.function
 co:sc.isCoroutine=We
 gen:sc.isGenerator=We
 nd:N.Nodup
 pre:N.take P.length=P
 par:∀x∈P,sc.names.lookup x=Wb .local\/sc.names.lookup x=Wb .cell
 nofree:∀y∈sc.names,y.2≠.free
def ze{kindOf:Str->Option N7}:∀{binds:Zk} {m:ZM},(∀v,(x,v)∉binds)->bindL kindOf binds m x=m x:=by
 intro binds;induction binds with
 |nil=>exact λa=>rfl
 |cons y r ih =>intro m h;cases y with|mk n v=>?_;unfold bindL;rw[ih λw hw=>h w<|Y8 _ hw];have e:x≠n:=λz=>h v<|z▸Y5;split<;>first|rfl|exact VQ e
def zg{kindOf:Str->Option N7}:∀{binds:Zk} {m:ZM},(∀v,(x,v)∉binds)->bindC kindOf binds m x=m x:=by
 intro binds;induction binds with
 |nil=>exact λa=>rfl
 |cons y r ih =>intro m h;cases y with|mk n v=>?_;unfold bindC;rw[ih λw hw=>h w<|Y8 _ hw];have e:x≠n:=λz=>h v<|z▸Y5;split<;>first|rfl|exact VQ e
def zh{kindOf:Str->Option N7}:∀{P:ZL} {vs:ZO} {i:Nat} {m:ZM},P.Nodup->P[i]?=Wb x->vs[i]?=Wb v->kindOf x=Wb .local ->
  bindL kindOf (P.zip vs) m x=Wb v:=by
 intro P;induction P with
 |nil=>exact λa h=>nomatch h
 |cons p P ih =>
  intro vs i m nd h1 h2 hk;cases vs with|nil=>exact nomatch h2|cons w vs=>?_;show bindL kindOf ((p,w) ::P.zip vs) m x=_;unfold bindL;cases i with
  |zero =>have e1:p=x:=Z4 h1;rw[<- e1,ze λv hv=>(M5.mp nd).1 (List.of_mem_zip hv).1,VP (e1▸hk)];exact(VP rfl).trans h2
  |succ i=>exact ih (i:=i) (M5.mp nd).2 h1 h2 hk
def zi{kindOf:Str->Option N7}:∀{P:ZL} {vs:ZO} {i:Nat} {m:ZM},P.Nodup->P[i]?=Wb x->vs[i]?=Wb v->kindOf x≠Wb .local ->
  bindC kindOf (P.zip vs) m x=Wb v:=by
 intro P;induction P with
 |nil=>exact λa h=>nomatch h
 |cons p P ih =>
  intro vs i m nd h1 h2 hk;cases vs with|nil=>exact nomatch h2|cons w vs=>?_;show bindC kindOf ((p,w) ::P.zip vs) m x=_;unfold bindC;cases i with
  |zero =>have e1:p=x:=Z4 h1;rw[<- e1,zg λv hv=>(M5.mp nd).1 (List.of_mem_zip hv).1,VQ (e1▸hk)];exact(VP rfl).trans h2
  |succ i=>exact ih (i:=i) (M5.mp nd).2 h1 h2 hk
def start(N:ZL)(vs:List V):St:=vs.map Wb++U8 (N.length-vs.length) Wc
def lD(CX:CXT)(P:W7)(w:WB)(K:Z1)(mg:ZM)(base:WD)(N:ZL)(qual:Str)(scope:WY)(f:Wy)(cd:Wx)(A:WE)(outer:List Env)(s:Ww)(H:Hp)(E:XK):Cx where
 prog:=P
 w:=w
 K:=K
 mg:=mg
 base:=base
 A:=A.deeper (VD qual scope s.heap.objs.size f cd)
 N:=N
 s₀:=s
 H₀:=H
 env:=VD qual scope s.heap.objs.size f cd
 outer:=outer
 stack:=VD qual scope s.heap.objs.size f cd ::outer
 ex:=[]
 calm:=Wd
 fn:=λx=>Wd
 pn:=[]
 xe:=λe s'=>Wz (WA P w) (A.deeper<|VD qual scope s.heap.objs.size f cd) (leaving (VD qual scope s.heap.objs.size f cd) e) (λx s''=>CX outer H s E e s'') (λe' s''=>CX outer H s E e' s'') s'
def uh{sc:WY}(h:sc.names.lookup x=Wb .cell):∃c,(cellsFrom n sc.names []).lookup x=Wb c:=by have q:=PySem.W.cellsFrom_some sc.names n []<|.inl h;exact Option.isSome_iff_exists.mp q
def zj{K:Z1}{mg:ZM}(S:FnScope N ps scope)(hd:A.handled=Wc)(e0:Env0 P w K mg base A outer s H)(hl:vs.length=ps.length)(r:aS vs us)(x:InCallC s s.heap.objs.size (bindL (VD qual scope s.heap.objs.size f cd).kindOf (ps.zip us) λt=>Wc) (cellsFrom (s.heap.objs.size+1) scope.names []) (bindC (VD qual scope s.heap.objs.size f cd).kindOf (ps.zip us) λt=>Wc) s1):
  Inv (lD CX P w K mg base N qual scope f cd A outer s H E) [] (start N vs) H s1:=by
 have hpl:ps.length<=N.length:=by have:=congrArg F6 S.pre;rw[List.length_take]at this;lia
 obtain⟨h1,tk,rfl,hk⟩:=x.done;have noA:∀b:Wy,b∉(lD CX P w K mg base N qual scope f cd A outer s H E).ex:=λb z=>VR (show b∈([]:List Wy) from z) (by simp);refine⟨⟨e0.mod,S.kind,rfl,rfl,bW _,λy z c h1 h2=>?_,λy hy=>?_,λy c t h=>?_,λt=>hd,Around.frames_deeper e0.frames,.inr ⟨rfl,rfl⟩,λb z=>VR z<|noA b,e0.bs,e0.bsz,λb t t=>noA b,λb z=>VR z<|noA b,e0.funs,e0.frf⟩,
  rfl,e0.bare,Un.kept hk,⟨_,x.toInCall.ns,λi y v h1 h2 h3=>?_⟩,λy c h=>⟨_,x.cell y c h⟩,e0.hok.fresh<|bW _,λy c h=>?_,λp hp=>VR (show p∈([]:List (Wy×Obj)) from hp) (by simp),e0.hok.kept hk,?_⟩
 ·exact name_of_addr x.apart (R7 h1)<|R7 h2
 ·have hy:scope.names.lookup y=Wb .cell\/scope.names.lookup y=Wb .free:=hy;rcases hy with hy|hy
  ·exact uh hy
  ·exact VR rfl<|S.nofree _<|R7 hy
 ·exact cj<|x.above y c<|R7 h
 ·have hi:i<vs.length:=by
   unfold start at h2;by_cases hi:i<vs.length
   ·exact hi
   ·rw[V1 (by simpa using hi)]at h2;rw[List.getElem?_replicate]at h2;split at h2<;>cases h2
  have ha:vs[i]?=Wb v:=by
   unfold start at h2;rw[W3 (by simpa using hi),Y3]at h2;cases e:vs[i]? with
   |none=>rw[e]at h2;cases h2
   |some a=>rw[e]at h2;cases h2;rfl
  obtain⟨u,hu,rv⟩:=r.get ha;have hp:ps[i]?=Wb y:=by rw[<- S.pre,List.getElem?_take_of_lt (by lia)];exact h1
  have ndP:ps.Nodup:=by rw[<- S.pre];exact S.nd.sublist<|List.take_sublist _ _
  refine⟨u,rv,?_⟩;rcases S.par y (X6 hp) with k|k
  ·exact .inl ⟨k,zh ndP hp hu k⟩
  ·obtain⟨c,e⟩:=uh (n:=s.heap.objs.size+1) k;refine .inr ⟨.inl k,c,e,?_⟩;have q:=x.cell y c e;rw[zi ndP hp hu (by show scope.names.lookup y≠_;rw[k];decide)]at q;exact q
 ·exact e0.hok.fresh<|cj<|x.above y c<|R7 h
 ·unfold start;show _=N.length;rw[X4,Z5,L5];lia
def AR{K:Z1}{mg:ZM}{dV kV Wu pm ZP ct oc:Wx}(lk:K.lookup f=Wb ⟨oc,od,.func<|T5 name qual params body scope dV kV Wu pm an ZP ct,osl⟩)(hcd:N8 K ZP qual=Wd)(S:FnScope N ps scope)(len:∀vs H Q E,sp vs H Q E->vs.length=ps.length)(Wv:∀(A:WE) (outer:List Env) (s:Ww) (H:Hp) (vs:List V) (Q:VK) (E:XK),Room k (A.deeper<|VD qual scope s.heap.objs.size f ZP)->sp vs H Q E ->
   ∃t,nQ (lD CX P w K mg base N qual scope f ZP A outer s H E) body t/\t {nx:=λa H'=>Q .non H',rt:=Q} (start N vs) H):
  FnOk P w K mg base CX (k+1) f (T5 name qual params body scope dV kV Wu pm an ZP ct) ps sp:=by
 refine⟨len,λA outer s H args us vs Q E hr e0 hb r hsp=>?_⟩;have hl:=len _ _ _ _ hsp;have KX:K.In s.heap:=e0.mod.kin.keeps λb o e=>(e0.bs b o e).1;have lim:s.heap.NoLimit:=e0.mod.nolimit.keeps λb o e=>(e0.bs b o e).1;have hkind:∀y∈ps.zip us,scope.names.lookup y.1=Wb .local\/(scope.names.lookup y.1=Wb .cell/\((cellsFrom (s.heap.objs.size+1) scope.names []).lookup y.1).isSome=Wd):=λ⟨n,v⟩ hy=>by
  rcases S.par n (List.of_mem_zip hy).1 with q|q
  ·exact .inl q
  ·exact .inr ⟨q,PySem.W.cellsFrom_some _ _ _<|.inl q⟩
 refine codeAny_call_function hr.depth (KX _ _ lk) rfl S.co S.gen rfl (PySem.W.codeRec_of KX hcd)<|hb _ _ _ _ ?_;refine wpAny_newFunctionEnv_cells S.kind hkind λenv he s1 x=>?_;subst he;refine⟨lim.keeps x.toInCall.keep,codeAny_func ?_⟩;obtain⟨t,ht,hq⟩:=Wv A outer s H vs Q E (hr.deeper _) hsp;have I:Inv (lD CX P w K mg base N qual scope f ZP A outer s H E) [] (start N vs) H s1:=zj S hr.hd e0 hl r x;refine T8 (ht [] s1 (start N vs) H _ I hq) (λfl s' hs=>?_) λe s' hs=>hs;have fin:∀{σ':St} {H':Hp} {v:V} {u:Wx},Inv (lD CX P w K mg base N qual scope f ZP A outer s H E) [] σ' H' s'->RelV v u->Q v H'->CE outer P w H s Q u s' :=
  λ{σ' H' v u} J rv q=>⟨v,H',J.os,J.bare,J.base,J.hok,rv,q⟩
 cases fl with
 |ret u =>obtain⟨v,σ',H',J,rv,q⟩:=hs;exact fin J rv q
 |next =>obtain⟨σ',H',J,q⟩:=hs;exact fin (v:=V.non) (u:=J9) J rfl q
 |brk =>obtain⟨_,_,_,q⟩:=hs;exact O4 q
 |cont =>obtain⟨_,_,_,q⟩:=hs;exact O4 q
section
variable {X:Cx}{x:Str}{p pos:Pos}{e:WC}{es:List WC}{t:TA}{id T:String}{r:List V->Hp->VK->Prop}
def qV(r:List V->Hp->VK->Prop)(t:TA):TE:=λσ H Q=>t σ H λvs H1=>r vs H1 Q
def aP(hc:eG X (.builtin id) r)(hg:Gl X x)(hm:X.mg x=Wc)(hv:Q2 x=Wb (.builtin id))(ha:PA X (e ::es) t)(hn:autoParam (x≠"__name__") gR._auto_1)(hdb:autoParam ((x==("__debug__":Str))=We) gR._auto_1)(he:autoParam (X5 (e ::es) X.env=(We,WF e X.env) ::X5 es X.env) cV._auto_1)(hpl:autoParam ((WI pos<|X5 es X.env).any (·.1)=We) cV._auto_1):PE X (.Call (.Name x p) (e ::es) [] pos) (qV r t):=by intro ZY s σ H Q I h;refine L7<|iq I hg hm hv ?_ hn hdb;exact PyProof.Rows.callWith_builtin1 (bI (ha pos ZY s σ H _ I h) λus s1 ⟨vs,H1,I1,r1,q1⟩=>hc ZY s1 σ H1 vs us Q I1 r1 q1) he hpl
def df(hc:eG X (.type T) r)(hg:Gl X x)(hm:X.mg x=Wc)(hv:Q2 x=Wb (.type T))(ha:PA X (e ::es) t)(hn:autoParam (x≠"__name__") gR._auto_1)(hdb:autoParam ((x==("__debug__":Str))=We) gR._auto_1)(he:autoParam (X5 (e ::es) X.env=(We,WF e X.env) ::X5 es X.env) cV._auto_1)(hpl:autoParam ((WI pos<|X5 es X.env).any (·.1)=We) cV._auto_1):PE X (.Call (.Name x p) (e ::es) [] pos) (qV r t):=by intro ZY s σ H Q I h;refine L7<|iq I hg hm hv ?_ hn hdb;exact P7 (bI (ha pos ZY s σ H _ I h) λus s1 ⟨vs,H1,I1,r1,q1⟩=>hc ZY s1 σ H1 vs us Q I1 r1 q1) he hpl
end
end L2

namespace HT
open PySem PyProof.Rows
def lexLt:List Int->List Int->Bool
 |[],[]=>We
 |[],_ ::_=>Wd
 |_ ::_,[]=>We
 |x ::xs,y ::ys=>if x=y then lexLt xs ys else decide (x<y)
def wq(x y:Int)(xs ys:ZW):lexLt (x ::xs) (y ::ys)=if x=y then lexLt xs ys else decide (x<y):=rfl
def qt:lexLt [] []=We:=rfl
def oS(y:Int)(ys:ZW):lexLt [] (y ::ys)=Wd:=rfl
def oU(x:Int)(xs:ZW):lexLt (x ::xs) []=We:=rfl
def AS(A:WE)(s:Ww)(a:Int)(t:Tok)(c:Int)(u:Tok):∃e,T4 A s (.int a t) (.int c u) e/\(e=Wd↔a=c) :=
 ⟨(a==c),T4.int_int a t c u,by simp⟩
def AT(A:WE)(s:Ww)(a:Int)(t:Tok)(c:Int)(u:Tok)(prog:W7)(w:WB)(E:ZU)(Q:ZU)(h:Q (.bool<|decide<|a<c) s):
  Wz (WA prog w) A (Vp .Lt (.int a t)<|.int c u) Q E s :=
 (PyProof.Rows.lt_int h:Wz (WA prog w) A (R8 .Lt (.int a t)<|.int c u) Q E s)
section
open PySem.SeqAt
open PySem.AutoSeq1 (wpAny_loadPart')
open PySem.MeetsSeq PySem.MeetsSeq2 PySem.MeetsSeq3
def qu(l b:Wy)(items items2:Zq)(n n2:Nat)(dd dd2:Zz)(sl sl2:Zm)(ns ms:ZW)(hi:L4 items.toList ns)(hj:L4 items2.toList ms):
  Meets (Q7.«tuple.__lt__» ⟨[.ref l,.ref b],[]⟩)
   (λi R s=>s.heap.get? l=Wb {cls:=.type "tuple",dict:=dd,data:=.seq items n,slots:=sl}/\s.heap.get? b=Wb {cls:=.type "tuple",dict:=dd2,data:=.seq items2 n2,slots:=sl2} /\
    R (.ok<|.ret<|.bool<|lexLt ns ms) s) :=
 .of_wp λprog w A R s h=>by
  obtain⟨hp,g,d,tk,os⟩:=s;obtain⟨hl,hb,h⟩:=h;have f2:=AutoSeq1.sub_tuple_tuple;have z1:items.size=ns.length:=by rw[<- hi.length];simp
  have z2:items2.size=ms.length:=by rw[<- hj.length];simp
  wp_walk using wpAny_loadPart' hl,wpAny_loadPart' hb,wpAny_forIn_list _ (λrest b s'=>b.1=Wc/\s'=⟨hp,g,d,tk,os⟩/\∃(vs ws:ZO) (ns' ms':ZW),rest=vs.zip ws /\
   L4 vs ns'/\L4 ws ms'/\ns'.length+items2.size=ms'.length+items.size/\R (.ok<|.ret<|.bool<|lexLt ns' ms') ⟨hp,g,d,tk,os⟩) _
  case turn =>
   rintro⟨y,x⟩ rest b s' ⟨hb',rfl,vs,ws,ns',ms',hz,hvi,hwi,hlen,hR⟩;cases hvi with
   |nil=>rw[List.zip_nil_left]at hz;cases hz
   |cons a t hvi' =>
    cases hwi with
    |nil=>rw[List.zip_nil_right]at hz;cases hz
    |cons c u hwi' =>
     rw[List.zip_cons_cons]at hz;injection hz with hyx hrest;injection hyx with hy hx;subst hy hx;rw[wq]at hR;simp only[X2]at hlen;obtain⟨e,he,hiff⟩:=AS A.in1 ⟨hp,g,d,tk,os⟩ a t c u;refine Z0<|he prog w _ _ ?_;cases e with
     |true =>
      rw[VP (hiff.mp rfl)]at hR
      wp_walk
      exact⟨rfl,rfl,_,_,_,_,hrest,hvi',hwi',by lia,hR⟩
     |false =>
      rw[VQ λq=>VR (hiff.mpr q) Z3]at hR;have hri:=AT A.in1 ⟨hp,g,d,tk,os⟩ a t c u prog w
      wp_walk using hri
      exact⟨_,rfl,by simpa using hR⟩
  case fin =>
   rintro⟨b1,b2⟩ s' ⟨hb',rfl,vs,ws,ns',ms',hz,hvi,hwi,hlen,hR⟩;simp only at hb';subst hb';have hv:lexLt ns' ms'=decide (items.size<items2.size):=by
    cases hvi with
    |nil =>
     cases hwi with
     |nil =>simp only[G9]at hlen;rw[qt];exact(VW (by lia)).symm
     |cons c u hw =>simp only[G9,X2]at hlen;rw[oS];exact(VU (by lia)).symm
    |cons a t hv =>
     cases hwi with
     |nil =>simp only[G9,X2]at hlen;rw[oU];exact(VW (by lia)).symm
     |cons c u hw =>rw[List.zip_cons_cons]at hz;cases hz
   rw[hv]at hR
   wp_walk
   exact⟨_,rfl,by simpa [Q7.Tuple.tupleCompareSizes] using hR⟩
  case h =>
   exact⟨rfl,rfl,items.toList,items2.toList,ns,ms,rfl,hi,hj,by lia,h⟩
end
section
variable {prog:W7}{w:WB}{A:WE}{E:ZU}{s:Ww}
def kE{Q:ZU}(hl:IsTup s.heap l items)(hb:IsTup s.heap b items2)(hi:L4 items.toList ns)(hj:L4 items2.toList ms)(hu:A.units<WO)(h:Q (.bool<|lexLt ns ms) s):Wz (WA prog w) A (R8 .Lt (.ref l)<|.ref b) Q E s:=by
 obtain⟨⟨cls,dd,data,sl⟩,ho,hc,n,hd⟩:=id hl;obtain⟨⟨cls2,dd2,data2,sl2⟩,ho2,hc2,n2,hd2⟩:=id hb;simp only at hc hd hc2 hd2;subst hc hd hc2 hd2;exact richCompare_meets_room (op:=.Lt) ⟨_,ho,rfl⟩ ⟨_,ho2,rfl⟩ PySem.F.slot_tuple_lt PySem.F.entry_tuple_lt (PySem.F.args_tuple_lt_2 _ _) (qu l b items items2 n n2 dd dd2 sl sl2 ns ms hi hj)
  ⟨ho,ho2,show Value.bool (lexLt ns ms)≠Value.notImplemented/\Q (.bool<|lexLt ns ms) s from ⟨(λx=>nomatch x),h⟩⟩ hu
def cat_tup{Q:ZU}(ht:IsTup s.heap t vs.toArray)(hb:IsTup s.heap b ws.toArray)(hv:vs≠[])(h1:ws=[]->Q (.ref t) s)(h2:ws≠[]->Q (.ref s.heap.objs.size) {s with heap:=s.heap.push {cls:=.type "tuple",data:=.seq (vs++ws).toArray}})(hsz:vs.length+ws.length<=W0):Wz (WA prog w) A (WS .Add (.ref t)<|.ref b) Q E s:=by
 obtain⟨⟨cls,dd,data,sl⟩,ho,hc,n,hd⟩:=id ht;obtain⟨⟨cls2,dd2,data2,sl2⟩,ho2,hc2,n2,hd2⟩:=id hb;simp only at hc hd hc2 hd2;subst hc hd hc2 hd2;have e:vs.toArray++ws.toArray=(vs++ws).toArray:=by simp
 by_cases hw:ws=[]
 ·exact concat_meets ⟨_,ho,rfl⟩ ⟨_,ho2,rfl⟩ noFill_tuple_add seq_tuple_add PySem.F.slot_tuple_add PySem.F.entry_tuple_add (PySem.F.args_tuple_add_2 _ _)
   (tuple_addW1 t b vs.toArray ws.toArray n n2 dd dd2 sl sl2 (by simpa using hv) (by simp[hw])) ⟨ho,ho2,h1 hw⟩
 ·refine concat_meets ⟨_,ho,rfl⟩ ⟨_,ho2,rfl⟩ noFill_tuple_add seq_tuple_add PySem.F.slot_tuple_add PySem.F.entry_tuple_add (PySem.F.args_tuple_add_2 _ _)
   (tuple_addW2 t b vs.toArray ws.toArray n n2 dd dd2 sl sl2 (by simpa using hv) (by simpa using hw) (by rw[Y6,Y6];exact hsz)) ⟨ho,ho2,?_⟩
  rw[e];exact h2 hw
def sx(n d:Nat):Option Int->Nat
 |none=>d
 |some v=>if v<0 then (v+(n:Int)).toNat else min v.toNat n
def xU(n d k:Nat):sx n d (Wb (k:Int))=min k n:=by show (if (k:Int)<0 then ((k:Int)+(n:Int)).toNat else min (k:Int).toNat n)=min k n;rw[VQ (by lia),W4]
end
end HT

namespace L2
open PySem PySem.Spec PyProof.Rows
abbrev TO:=St->Hp->(Option Int->Hp->Prop)->Prop
def PO(X:Cx)(e:Option WC)(t:TO):Prop :=
 ∀(ZY:ZN) (s:Ww) (σ:St) (H:Hp) (Q:Option Int->Hp->Prop),Inv X ZY σ H s->t σ H Q ->
  Wz (WA X.prog X.w) X.A (evalPart e X.env) (λu s'=>∃o H',Inv X ZY σ H' s'/\IsPart u o/\Q o H') X.xe s
def tPart(t:TE):TO:=λσ H Q=>t σ H λx H1=>∃i,x=.int i/\Q (Wb i) H1
def intsAre_of:∀{us:ZO},aS (ns.map V.int) us->L4 us ns:=by
 induction ns with
 |nil=>intro us r;rw[List.map_nil]at r;cases r;exact .nil
 |cons n ns ih =>
  intro us r;rw[V7]at r;cases r with
  |cons r1 r2 =>obtain⟨t,rfl⟩:=r1;exact .cons n t<|ih r2
section
variable {X:Cx}{e:WC}{te:TE}{lo hi:Option WC}{tl th:TO}{pos p2:Pos}
def o7(h:PE X e te):PO X (Wb e) (tPart te):=by intro ZY s σ H Q I hw;rw[evalPart_some];refine bI (h ZY s σ H _ I hw) λu s1 ⟨x,H1,I1,r1,q1⟩=>?_;obtain⟨i,rfl,q⟩:=q1;obtain⟨t,rfl⟩:=r1;exact⟨Wb i,H1,I1,.int i t,q⟩
def SlR(X:Cx)(r:V->Option Int->Option Int->Hp->VK->Prop):Prop :=
 ∀(ZY:ZN) (s:Ww) (σ:St) (H:Hp) (x:V) (v vl vu:Wx) (lo hi:ZK) (sl:Wy) (Q:VK),Inv X ZY σ H s->RelV x v->s.heap.IsSliceOf sl vl vu .none->IsPart vl lo->IsPart vu hi->r x lo hi H Q ->
  ∃T id,typeLookup (.type T) "__getitem__"=pure (Wb<|.builtin id)/\s.TypeIs v T/\Wz (WA X.prog X.w) X.A (getItem v<|.ref sl) (EP X ZY σ Q) X.xe s
def tSl(r:V->Option Int->Option Int->Hp->VK->Prop)(te:TE)(tl th:TO):TE:=λσ H Q=>te σ H λx H1=>tl σ H1 λl H2=>th σ H2 λu H3=>r x l u H3 Q
def ui{r:V->Option Int->Option Int->Hp->VK->Prop}(hr:SlR X r)(he:PE X e te)(hl:PO X lo tl)(hu:PO X hi th):PE X (.Subscript e (.Slice lo hi Wc p2) pos) (tSl r te tl th):=by intro ZY s σ H Q I h;refine Subscript_ (bI (he ZY s σ H _ I h) λv s1 ⟨x,H1,I1,r1,q1⟩=>?_);refine wpAny_Slice (bI (hl ZY s1 σ H1 _ I1 q1) λvl s2 ⟨l,H2,I2,pl,q2⟩=>bI (hu ZY s2 σ H2 _ I2 q2) λvu s3 ⟨u,H3,I3,pu,q3⟩=>?_);rw[evalPart_none];refine Z8 ?_;have I4:Inv X ZY σ H3 {s3 with heap:=s3.heap.push {cls:=.type "slice",data:=.fields #[vl,vu,.none]}}:=I3.kept (t':=s3.toks) λb ob q=>Z2 _ q;obtain⟨T,id,hT,ht,hg⟩:=hr ZY {s3 with heap:=s3.heap.push {cls:=.type "slice",data:=.fields #[vl,vu,.none]}} σ H3 x v vl vu l u s3.heap.objs.size Q I4 r1 (Heap.IsSliceOf.new ..) pl pu q3;show Wz (WA X.prog X.w) X.A (subscriptTail e (.Slice lo hi Wc p2) v<|.ref s3.heap.objs.size) (EP X ZY σ Q) X.xe {s3 with heap:=s3.heap.push {cls:=.type "slice",data:=.fields #[vl,vu,.none]}};exact tail_any (ops:=[.ref s3.heap.objs.size,v]) ht hT hg (by with_unfolding_all rfl)
def zk(xs:List V)(lo hi:ZK):List V:=(xs.drop<|HT.sx xs.length 0 lo).take (HT.sx xs.length xs.length hi-HT.sx xs.length 0 lo)
def uj(xs:List V)(lo hi:ZK):(zk xs lo hi).length<=xs.length:=by unfold zk;rw[List.length_take,List.length_drop];omega
def rLtT(K:Z1):R2:=λx y H Q=>∃a b ns ms,x=.ref a/\y=.ref b/\l9 K H a (ns.map V.int)/\l9 K H b (ms.map V.int)/\Q (.bl<|HT.lexLt ns ms) H
def op_ltT(hu:X.A.units<WO):kh X (R8 .Lt) (rLtT X.K):=by intro ZY s σ H x y v u Q I rx ry h;obtain⟨a,b,ns,ms,rfl,rfl,ha,hb,q⟩:=h;cases rx;cases ry;obtain⟨Wj,r1,p1,_⟩:=I.tuple ha;obtain⟨its2,r2,p2,_⟩:=I.tuple hb;have i1:L4 Wj.toArray.toList ns:=intsAre_of r1;have i2:L4 its2.toArray.toList ms:=intsAre_of r2;exact HT.kE p1 p2 i1 i2 hu ⟨.bl<|HT.lexLt ns ms,H,I,rfl,q⟩
def xV(K:Z1):R2:=λx y H Q=>∃a b xs ys,x=.ref a/\y=.ref b/\l9 K H a xs/\l9 K H b ys/\xs≠[]/\xs.length+ys.length<=W0 /\
 (ys=[]->Q (.ref a) H)/\(ys≠[]->∀p,H p=Wc->Q (.ref p) (aB H p<|.tup<|xs++ys))
def aS.nil_iff(r:aS xs us):us=[]↔xs=[]:=by
 cases r with
 |nil=>simp
 |cons _ _=>simp
def op_catT:kh X (WS .Add) (xV X.K):=by intro ZY s σ H x y v u Q I rx ry h;obtain⟨a,b,xs,ys,rfl,rfl,ha,hb,hx,hz,q1,q2⟩:=h;cases rx;cases ry;obtain⟨Wj,r1,p1,_⟩:=I.tuple ha;obtain⟨its2,r2,p2,_⟩:=I.tuple hb;refine HT.cat_tup p1 p2 (λz=>hx<|r1.nil_iff.mp z) (λz=>⟨.ref a,H,I,rfl,q1<|r2.nil_iff.mp z⟩) (λz=>?_) (by rw[<- r1.length,<- r2.length];exact hz);refine⟨.ref s.heap.objs.size,_,I.laid (t':=s.toks) (o:=.tup<|xs++ys) (λb ob q=>Z2 _ q) (bW _) ?_,rfl,q2 (λw=>z<|r2.nil_iff.mpr w) _<|I.hok.fresh<|bW _⟩;exact⟨by rw[X4];exact hz,_,r1.append r2,IsTup.new _ _⟩
end
def k9(n:Nat)(i:Int):Option Nat:=if 0<=i then (if i<n then Wb i.toNat else Wc) else if -(n:Int)<=i then Wb (i+n).toNat else Wc
def xW{α:Type}(xs:List α)(i:Int):Option α:=(k9 xs.length i).bind λj=>xs[j]?
def xX(h:k9 n i=Wb j):seqIndex? i n=Wb j/\j<n/\-(n:Int)<=i/\i<n:=by
 unfold k9 at h;by_cases h0:0<=i
 ·rw[VP h0]at h;by_cases h1:i<n
  ·rw[VP h1]at h;have e:i.toNat=j:=Z4 h;exact⟨by rw[seqIndex_of h0 h1,e],by lia,by lia,h1⟩
  ·rw[VQ h1]at h;cases h
 ·rw[VQ h0]at h;by_cases h1:-(n:Int)<=i
  ·rw[VP h1]at h;have e:(i+n).toNat=j:=Z4 h;exact⟨by rw[seqIndex_neg (by lia) h1,e],by lia,h1,by lia⟩
  ·rw[VQ h1]at h;cases h
def xY{α:Type}{xs:List α}{v:α}(h:xW xs i=Wb v):∃j,seqIndex? i xs.length=Wb j/\xs[j]?=Wb v/\j<xs.length/\-(xs.length:Int)<=i/\i<xs.length:=by
 unfold xW at h;cases e:k9 xs.length i with
 |none=>rw[e]at h;cases h
 |some j =>rw[e]at h;obtain⟨h1,h2,h3,h4⟩:=xX e;exact⟨j,h1,h,h2,h3,h4⟩
def sA(b:WC):Prop:=∀o i,subscripted b We o i=operate [o,i] (getItem o i)
def IxR(X:Cx)(r:R2):Prop :=
 ∀(value slice:WC) (ZY:ZN) (s:Ww) (σ:St) (H:Hp) (x y:V) (v u:Wx) (Q:VK),Inv X ZY σ H s->RelV x v->RelV y u->r x y H Q ->
  subscripted slice We v u=operate [v,u] (getItem v u)->Wz (WA X.prog X.w) X.A (subscriptTail value slice v u) (EP X ZY σ Q) X.xe s
def MtR(X:Cx)(id:String)(r:V->List V->Hp->VK->Prop):Prop :=
 ∀(ZY:ZN) (s:Ww) (σ:St) (H:Hp) (x:V) (xs:List V) (v:Wx) (us:ZO) (Q:VK),Inv X ZY σ H s->RelV x v->aS xs us->r x xs H Q ->
  Wz (WA X.prog X.w) X.A (call (.builtin id) (v ::us)) (EP X ZY σ Q) X.xe s
section
variable {X:Cx}{a b:WC}{ta tb:TE}{pos:Pos}
def pe_ix(hr:IxR X r)(ha:PE X a ta)(hb:PE X b tb)(hs:sA b):PE X (.Subscript a b pos) (iQ r ta tb):=by intro ZY s σ H Q I h;exact Subscript_ (binT ha hb I h λv u s2 x y H2 I2 rx ry q=>hr a b ZY s2 σ H2 x y v u Q I2 rx ry q<|hs _ _)
def wt(K:Z1):R2:=λx y H Q=>∃p xs i v,x=.ref p/\y=.int i/\dj K H p xs/\xW xs i=Wb v/\Q v H
def wu(K:Z1):R2:=λx y H Q=>∃p xs i v,x=.ref p/\y=.int i/\l9 K H p xs/\xW xs i=Wb v/\Q v H
def ix_list:IxR X (wt X.K):=by
 intro value slice ZY s σ H x y v u Q I rx ry h hs;obtain⟨p,xs,i,z,rfl,rfl,hq,he,q⟩:=h;cases rx;obtain⟨t,rfl⟩:=ry;obtain⟨Wj,r,pl,hz⟩:=I.list hq;obtain⟨j,h1,h2,h3,h4,h5⟩:=xY he;obtain⟨w,ew,rw'⟩:=r.get h2;have hl:=r.length;have hn:=oO;have fin:EP X ZY σ Q w s:=⟨z,H,I,rw',q⟩;by_cases h0:0<=i
 ·have hj:i.toNat=j:=by rw[seqIndex_of h0 h5]at h1;exact Z4 h1
  exact item_listR pl.isList h0 (by lia) (by rw[hj];simpa using ew) fin hs
 ·have hj:(i+(Wj.toArray.size:Int)).toNat=j:=by rw[seqIndex_neg (by lia) h4]at h1;rw[Y6,<- hl];exact Z4 h1
  exact VM (x:=w) pl.isList.typeIs slot_list_getitem.lookup
   (wpAny_getItem_list_neg (Q:=λr s'=>r=w/\EP X ZY σ Q r s') pl.isList (by lia) (by rw[Y6]<;>lia) (by lia) (by rw[hj];simpa using ew) ⟨rfl,fin⟩) hs
def ix_tup:IxR X (wu X.K):=by
 intro value slice ZY s σ H x y v u Q I rx ry h hs;obtain⟨p,xs,i,z,rfl,rfl,hq,he,q⟩:=h;cases rx;obtain⟨t,rfl⟩:=ry;obtain⟨Wj,r,pl,hz⟩:=I.tuple hq;obtain⟨j,h1,h2,h3,h4,h5⟩:=xY he;obtain⟨w,ew,rw'⟩:=r.get h2;have hl:=r.length;have hn:=oO;have fin:EP X ZY σ Q w s:=⟨z,H,I,rw',q⟩;exact VM (x:=w) pl.typeIs slot_tuple_getitem.lookup
  (getItem_tuple (j:=j) (Q:=λr s'=>r=w/\EP X ZY σ Q r s') pl (by lia) (by lia) (by rw[Y6,<- hl];exact h1) (by simpa using ew) ⟨rfl,fin⟩) hs
def wv(Wj:ZO)(n j:Nat)(u:Wx):X0 (·.setIfInBounds j u) {cls:=.type "list",data:=.seq Wj.toArray n}={cls:=.type "list",data:=.seq (Wj.set j u).toArray n}:=by simp[X0]
def Inv.lst{σ:St}(I:Inv X ZY σ H s)(h:H p=Wb (.lst xs)):
  ∃(Wj:ZO) (n:Nat),aS xs Wj/\s.heap.get? p=Wb {cls:=.type "list",data:=.seq Wj.toArray n}/\xs.length<=W0:=by
 obtain⟨z,Wj,n,r,e⟩:=I.hok p _ h;exact⟨Wj,n,r,e,z⟩
def Inv.lstUpd{σ:St}{Wj its':ZO}{f:Obj->Obj}(I:Inv X ZY σ H s)(h:H p=Wb (.lst xs))(ho:s.heap.get? p=Wb {cls:=.type "list",data:=.seq Wj.toArray n})(hf:f {cls:=.type "list",data:=.seq Wj.toArray n}={cls:=.type "list",data:=.seq its'.toArray n'})(r:aS ys its')(hz:ys.length<=W0)(t:Nat):
  Inv X ZY σ (aB H p<|.lst ys) {s with heap:=s.heap.update p f,toks:=t}:=by
 have e:(s.heap.update p f).get? p=Wb {cls:=.type "list",data:=.seq its'.toArray n'}:=by rw[P5 f ho (by rw[hf]<;>rfl),hf]
 refine I.write (x:=p) (e:=p) (by rw[h];trivial) (.inl rfl) (λb u hb q=>(Heap.get?_update_other _ _<|V8 hb).trans q) ⟨_,e⟩ ?_;exact⟨hz,its',n',r,e⟩
def xZ:V->V->V->Hp->(Hp->Prop)->Prop:=λo i v H Q=>∃p xs k j,o=.ref p/\i=.int k/\H p=Wb (.lst xs)/\k9 xs.length k=Wb j/\Q (aB H p<|.lst<|xs.set j v)
def set_list:PSet X xZ:=by
 intro ZY s σ H o i v ov iv u Q I ro ri rv h;obtain⟨p,xs,k,j,rfl,rfl,hp,hj,q⟩:=h;cases ro;obtain⟨t,rfl⟩:=ri;obtain⟨Wj,n,r,ho,hz⟩:=I.lst hp;obtain⟨h1,h2,h3,h4⟩:=xX hj;have hl:=r.length;have hn:=oO;have I':Inv X ZY σ (aB H p<|.lst<|xs.set j v) {s with heap:=s.heap.update p (X0 (·.setIfInBounds j u))} :=
  I.lstUpd hp ho (wv Wj n j u) (r.set rv j) (by rw[T1];exact hz) s.toks
 by_cases h0:0<=k
 ·have hk:k.toNat=j:=by rw[seqIndex_of h0 h4]at h1;exact Z4 h1
  exact PySem.W.ki_setAt ho h0 (by lia) (by rw[Y6,<- hl];exact h4) (by rw[hk];exact⟨_,I',q⟩)
 ·have hk:(k+(Wj.toArray.size:Int)).toNat=j:=by rw[seqIndex_neg (by lia) h3]at h1;rw[Y6,<- hl];exact Z4 h1
  exact PySem.W.ki_setBack ho (by lia) (by rw[Y6,<- hl];exact h3) (by lia) (by rw[hk];exact⟨_,I',q⟩)
def sB(lo hi:ZK)(n:Nat):(WX lo hi Wc n).1=((HT.sx n 0 lo:Nat):Int)/\(WX lo hi Wc n).2.1=((HT.sx n n hi:Nat):Int)/\(WX lo hi Wc n).2.2=1:=by
 refine⟨?_,?_,rfl⟩
 ·cases lo with
  |none=>simp[WX,HT.sx]
  |some i =>
   simp only[WX,HT.sx,Option.getD_none,show (1:Int) > 0 by decide,if_true];by_cases h:i<0
   ·simp only[h,if_true]<;>lia
   ·simp only[h,if_false]<;>lia
 ·cases hi with
  |none=>simp[WX,HT.sx]
  |some i =>
   simp only[WX,HT.sx,Option.getD_none,show (1:Int) > 0 by decide,if_true];by_cases h:i<0
   ·simp only[h,if_true]<;>lia
   ·simp only[h,if_false]<;>lia
def qv(Wj:ZO)(lo hi:ZK):slicePick Wj.toArray lo hi Wc=((Wj.drop<|HT.sx Wj.length 0 lo).take (HT.sx Wj.length Wj.length hi-HT.sx Wj.length 0 lo)).toArray:=by obtain⟨h1,h2,h3⟩:=sB lo hi Wj.toArray.size;unfold slicePick;rw[h1,h2,h3];simp only[sliceRange_one,pick_run,Y6]<;>rfl
def rSlL(K:Z1):V->Option Int->Option Int->Hp->VK->Prop:=λx lo hi H Q=>∃a xs,x=.ref a/\dj K H a xs/\∀p,H p=Wc->Q (.ref p) (aB H p<|.lst<|zk xs lo hi)
def sl_list:SlR X (rSlL X.K):=by intro ZY s σ H x v vl vu lo hi sl Q I rx hs pl pu h;obtain⟨a,xs,rfl,hx,q⟩:=h;cases rx;obtain⟨Wj,r,ht,hz⟩:=I.list hx;have hlen:=r.length;refine⟨"list",_,slot_list_getitem.lookup,ht.isList.typeIs,?_⟩;refine wpAny_getItem_list_slice ht.isList hs pl pu .none (by simp) ?_ (by rw[Y6]<;>lia);rw[qv,<- hlen];refine⟨.ref s.heap.objs.size,_,I.laid (t':=s.toks) (o:=.lst<|zk xs lo hi) (λb ob q=>Z2 _ q) (bW _) ?_,rfl,q _<|I.hok.fresh<|bW _⟩;exact⟨aO (uj xs lo hi) hz,_,0,(r.drop<|HT.sx xs.length 0 lo).take (HT.sx xs.length xs.length hi-HT.sx xs.length 0 lo),Y7 _ rfl⟩
def kj:V->Bool
 |.non=>Wd
 |.bl _=>Wd
 |.int _=>Wd
 |.str _=>Wd
 |_=>We
def AU:V->V->Bool
 |.non,.non=>Wd
 |.bl a,.bl b=>a==b
 |.bl a,.int b=>(if a then 1 else 0)==b
 |.int a,.bl b=>a==(if b then 1 else 0)
 |.int a,.int b=>a==b
 |.str a,.str b=>a==b
 |_,_=>We
def eqAt_V(ry:RelV y u)(rx:RelV x v)(fy:kj y=Wd)(fx:kj x=Wd):T4 A s u v (AU y x):=by
 cases y with
 |non =>
  cases ry;cases x with
  |non=>cases rx;exact T4.same _
  |bl b=>cases rx;exact T4.none_bool b
  |int b=>obtain⟨t,rfl⟩:=rx;exact T4.none_int b t
  |str b=>obtain⟨t,rfl⟩:=rx;exact T4.none_str b t
  |_=>exact VR (show We=Wd from fx) Z3
 |bl a =>
  cases ry;cases x with
  |non=>cases rx;exact T4.bool_none a
  |bl b=>cases rx;exact T4.bool_bool a b
  |int b=>obtain⟨t,rfl⟩:=rx;exact T4.bool_int a b t
  |str b=>obtain⟨t,rfl⟩:=rx;exact T4.bool_str a b t
  |_=>exact VR (show We=Wd from fx) Z3
 |int a =>
  obtain⟨t',rfl⟩:=ry;cases x with
  |non=>cases rx;exact T4.int_none a t'
  |bl b=>cases rx;exact T4.int_bool a t' b
  |int b=>obtain⟨t,rfl⟩:=rx;exact T4.int_int a t' b t
  |str b=>obtain⟨t,rfl⟩:=rx;exact T4.int_str a t' b t
  |_=>exact VR (show We=Wd from fx) Z3
 |str a =>
  obtain⟨t',rfl⟩:=ry;cases x with
  |non=>cases rx;exact T4.str_none a t'
  |bl b=>cases rx;exact T4.str_bool a t' b
  |int b=>obtain⟨t,rfl⟩:=rx;exact T4.str_int a t' b t
  |str b=>obtain⟨t,rfl⟩:=rx;exact T4.str_str a t' b t
  |_=>exact VR (show We=Wd from fx) Z3
 |_=>exact VR (show We=Wd from fy) Z3
def eqU(x:V)(u:Wx):Bool:=match u with
 |.none=>AU .non x
 |.bool b=>AU (.bl b) x
 |.int i _=>AU (.int i) x
 |.str z _=>AU (.str z) x
 |_=>We
def AV(r:RelV y u)(f:kj y=Wd):eqU x u=AU y x:=by
 cases y with
 |non=>cases r;rfl
 |bl b=>cases r;rfl
 |int i=>obtain⟨t,rfl⟩:=r;rfl
 |str z=>obtain⟨t,rfl⟩:=r;rfl
 |_=>exact VR (show We=Wd from f) Z3
def y0:∀{xs:List V} {us:ZO},aS xs us->xs.all kj=Wd->us.any (eqU x)=xs.any λy=>AU y x:=λp f=>by
 induction p with
 |nil=>rfl
 |cons r t ih =>rw[List.all_cons,N3]at f;rw[E1,E1,AV r f.1,ih f.2]
def um(rx:RelV x v)(fx:kj x=Wd):∀{xs:List V} {us:ZO},aS xs us->xs.all kj=Wd->∀u∈us,T4 A s u v (eqU x u):=by
 intro xs us p;induction p with
 |nil=>exact λa u hu=>nomatch hu
 |cons r t ih =>
  intro f u' hu;rw[List.all_cons,N3]at f;rcases Y1.mp hu with z|hu
  ·rw[z,AV r f.1];exact eqAt_V r rx f.1 fx
  ·exact ih f.2 u' hu
def inV(x:V)(xs:List V):Bool:=xs.any λy=>AU y x
def rIn(K:Z1)(neg:Bool):R2:=λx y H Q=>∃p xs,y=.ref p/\(dj K H p xs\/l9 K H p xs)/\kj x=Wd/\xs.all kj=Wd/\Q (.bl (if neg then !inV x xs else inV x xs)) H
def zl:kh X (R8 .In) (rIn X.K We):=by
 intro ZY s σ H x y v u Q I rx ry h;obtain⟨p,xs,rfl,hq,fx,fs,q⟩:=h;cases ry;rcases hq with hq|hq
 ·obtain⟨Wj,r,pl,hz⟩:=I.list hq;refine SeqAt.in_listAt (eqU x) pl.isList (λw hw=>um rx fx r fs w (by simpa using hw)) ⟨.bl _,H,I,rfl,?_⟩;rw[show Wj.toArray.any (eqU x)=Wj.any (eqU x) by simp,y0 r fs];exact q
 ·obtain⟨Wj,r,pl,hz⟩:=I.tuple hq;refine SeqAt.in_tupleAt (eqU x) pl (λw hw=>um rx fx r fs w (by simpa using hw)) ⟨.bl _,H,I,rfl,?_⟩;rw[show Wj.toArray.any (eqU x)=Wj.any (eqU x) by simp,y0 r fs];exact q
def sC:eG X (.builtin "len") (λxs H Q=>∃p ys,xs=[.ref p]/\(dj X.K H p ys\/l9 X.K H p ys)/\Q (.int ys.length) H):=by
 intro ZY s σ H xs us Q I r h;obtain⟨p,ys,rfl,hq,q⟩:=h;obtain⟨u,rfl,rx⟩:=vals1 r;cases rx;have hn:=oO;rcases hq with hq|hq
 ·obtain⟨Wj,r',pl,hz⟩:=I.list hq;have hlen:=r'.length;exact Calls.call_len_list pl.isList (by simp only[Y6]<;>lia) ⟨.int ys.length,H,I.tok _,⟨s.toks+1,by rw[Y6,hlen]⟩,q⟩
 ·obtain⟨Wj,r',pl,hz⟩:=I.tuple hq;have hlen:=r'.length;exact len_tuple pl (by simp only[Y6]<;>lia) ⟨.int ys.length,H,I.tok _,⟨s.toks+1,by rw[Y6,hlen]⟩,q⟩
def sD:eG X (.type "list") (λxs H Q=>∃p ys,xs=[.ref p]/\(dj X.K H p ys\/l9 X.K H p ys)/\∀l,H l=Wc->Q (.ref l) (aB H l<|.lst ys)):=by
 intro ZY s σ H xs us Q I r h;obtain⟨p,ys,rfl,hq,q⟩:=h;obtain⟨u,rfl,rx⟩:=vals1 r;cases rx;have fin:∀(Wj:ZO),aS ys Wj->ys.length<=W0->∀(h':WD) (c':Nat),(∀b o',s.heap.get? b=Wb o'->h'.get? b=Wb o') ->
   h'.get? s.heap.objs.size=Wb {cls:=.type "list",dict:=Wc,data:=.seq Wj.toArray c',slots:=#[]}->EP X ZY σ Q (.ref s.heap.objs.size) {s with heap:=h'}:=λWj r' hz h' c' kp e =>
  ⟨.ref s.heap.objs.size,_,I.laid (t':=s.toks) kp (bW _) (show bA X.prog X.w _ h' _ (.lst ys) from ⟨hz,Wj,c',r',e⟩),rfl,q _<|I.hok.fresh<|bW _⟩
 rcases hq with hq|hq
 ·obtain⟨Wj,r',pl,hz⟩:=I.list hq;have hlen:=r'.length;obtain⟨o,ho,hc,n,hd⟩:=pl.isList;exact call_list_seq p (.inl rfl) ho hc hd (λh' c' kp e=>fin Wj r' hz h' c' kp e) (by simp only[Y6]<;>omega)
 ·obtain⟨Wj,r',pl,hz⟩:=I.tuple hq;have hlen:=r'.length;obtain⟨o,ho,hc,n,hd⟩:=pl;exact call_list_seq p (.inr rfl) ho hc hd (λh' c' kp e=>fin Wj r' hz h' c' kp e) (by simp only[Y6]<;>omega)
def tyV(K:Z1)(T:String)(x:V)(H:Hp):Prop:=match x with
 |.str _=>T="str"
 |.int _=>T="int"
 |.ref p=>(T="list"/\∃xs,dj K H p xs)\/(T="tuple"/\∃o,K.lookup p=Wb o/\o.cls=.type "tuple"/\o.dict=Wc) \/
   (T="dict"/\((∃kvs,H p=Wb (.dK kvs))\/∃kvs,H p=Wb (.dT kvs)))\/(T="set"/\∃S n,H p=Wb (.set S n))
 |_=>False
def AW{σ:St}(I:Inv X ZY σ H s)(r:RelV x v)(ty:tyV X.K T x H):
  s.TypeIs v T/\∀a,v=.ref a->∃ob,s.heap.get? a=Wb ob/\ob.dict=Wc:=by
 cases x with
 |str z =>obtain⟨t,rfl⟩:=r;cases (show T="str" from ty);exact⟨typeIs_str s z t,λb e=>nomatch e⟩
 |int i =>obtain⟨t,rfl⟩:=r;cases (show T="int" from ty);exact⟨typeIs_int s i t,λb e=>nomatch e⟩
 |ref p =>
  cases r;rcases ty with ⟨rfl,xs,hq⟩|⟨rfl,o,hk,hc,hd⟩|⟨rfl,hk⟩|⟨rfl,S,n,hk⟩
  ·obtain⟨Wj,_,pl,_⟩:=I.list hq;refine⟨pl.isList.typeIs,λa e=>?_⟩;cases e;obtain⟨o,n,e,c,hd,_⟩:=pl;exact⟨o,e,hd⟩
  ·refine⟨⟨o,I.kIn p o hk,hc⟩,λa e=>?_⟩;cases e;exact⟨o,I.kIn _ o hk,hd⟩
  ·have z:∃o,s.heap.get? p=Wb o/\o.ExactDict:=by
    rcases hk with ⟨kvs,hk⟩|⟨kvs,hk⟩
    ·obtain⟨_,_,_,_,o,_,_,e,ex,_⟩:=I.hok p _ hk;exact⟨o,e,ex⟩
    ·obtain⟨_,_,_,_,o,_,_,e,ex,_⟩:=I.hok p _ hk;exact⟨o,e,ex⟩
   obtain⟨o,e,ex⟩:=z;refine⟨⟨o,e,ex.1⟩,λa e2=>?_⟩;cases e2;exact⟨o,e,ex.2.1⟩
  ·obtain⟨o,_,_,_,e,ex,_⟩:=I.hok p _ hk;refine⟨⟨o,e,ex.1⟩,λa e2=>?_⟩;cases e2;exact⟨o,e,ex.2.1⟩
 |_=>exact O4 ty
def zm(K:Z1)(T:String)(r:V->List V->Hp->VK->Prop)(to:TE):TE:=λσ H Q=>to σ H λx H1=>tyV K T x H1/\r x [] H1 Q
def tBM(K:Z1)(T:String)(r:V->List V->Hp->VK->Prop)(to:TE)(t:TA):TE:=λσ H Q=>to σ H λx H1=>tyV K T x H1/\t σ H1 λxs H2=>r x xs H2 Q
variable {o e:WC}{es:List WC}{to:TE}{t:TA}{name:Str}{Wq cpos:Pos}{T id:String}{r:V->List V->Hp->VK->Prop}
def pe_bm0(pa:PlainAttrs T)(slot:Slot T name id)(hty:typeOf (.builtin id)=pure (.type "method_descriptor"))(hm:MtR X id r)(ho:PE X o to)(hbase:autoParam (J5 o name X.env (WF o X.env)=WF o X.env) cV._auto_1)(hline:autoParam ((Wq.endLine==cpos.line)=Wd) cV._auto_1):PE X (.Call (.Attribute o name Wq) [] [] cpos) (zm X.K T r to):=by intro ZY s σ H Q I h;refine wpAny_Call_method0_late hbase hline (bI (ho ZY s σ H _ I h) λv s1 ⟨x,H1,I1,r1,ty,q1⟩=>?_);obtain⟨h1,h2⟩:=AW I1 r1 ty;exact⟨T,id,pa,slot,hty,h1,h2,Calls.callWith_builtin rfl<|PySem.evalArgs_none<|hm ZY s1 σ H1 x [] v [] Q I1 r1 .nil q1⟩
def pe_bm(pa:PlainAttrs T)(slot:Slot T name id)(hty:typeOf (.builtin id)=pure (.type "method_descriptor"))(hm:MtR X id r)(ho:PE X o to)(ha:PA X (e ::es) t)(hbase:autoParam (J5 o name X.env (WF o X.env)=WF o X.env) cV._auto_1)(hfew:((WI cpos<|X5 (e ::es) X.env).all (λx=>!x.1)&&(Vv cpos<|WW [] X.env).all (λx=>x.1.isSome)
  &&decide ((e ::es).length+([]:List Keyword).length+(if ([]:List Keyword).isEmpty then 0 else 1)<30))=Wd:=by rfl)(hline:autoParam ((Wq.endLine==cpos.line)=Wd) cV._auto_1)(hs:autoParam (X5 (e ::es) X.env=(We,WF e X.env) ::X5 es X.env) cV._auto_1)(hplain:autoParam ((WI cpos<|X5 es X.env).any (·.1)=We) cV._auto_1):
  PE X (.Call (.Attribute o name Wq) (e ::es) [] cpos) (tBM X.K T r to t):=by
 intro ZY s σ H Q I h;refine wpAny_Call_method_late hbase hfew hline rfl (bI (ho ZY s σ H _ I h) λv s1 ⟨x,H1,I1,r1,ty,q1⟩=>?_);obtain⟨h1,h2⟩:=AW I1 r1 ty;refine⟨T,id,pa,slot,hty,h1,h2,?_⟩;have hA:=ha cpos ZY s1 σ H1 _ I1 q1;rw[hs]at hA ⊢;refine Calls.callWith_builtin (by show (We || (WI cpos<|X5 es X.env).any (·.1))=We;rw[hplain]<;>rfl)<|Calls.evalArgs_plain ?_;exact bI hA λus s2 ⟨vs,H2,I2,r2,q2⟩=>hm ZY s2 σ H2 x vs v us Q I2 r1 r2 q2
end
def MtM(X:Cx)(id:String)(r:V->List V->Hp->VK->Prop):Prop :=
 ∀(ZY:ZN) (s:Ww) (σ:St) (H:Hp) (x:V) (xs:List V) (v:Wx) (us:ZO) (Q:VK),Inv X ZY σ H s->RelV x v->aS xs us->r x xs H Q ->
  Wz (WA X.prog X.w) X.A (call (.builtin id) (v ::us)) (EP X ZY σ Q) X.xe s
def aS.one:∀{x:V} {us:ZO},aS [x] us->∃u,us=[u]/\RelV x u:=λp=>by
 cases p with
 |cons r t=>cases t;exact⟨_,rfl,r⟩
def aS.zero:∀{us:ZO},aS [] us->us=[]
 |_,.nil=>rfl
def aS.dropLast(h:aS xs us):aS xs.dropLast us.dropLast:=by
 induction h with
 |nil=>exact .nil
 |cons r t ih =>
  cases t with
  |nil=>exact .nil
  |cons q t'=>exact .cons r ih
def aS.eraseIdx:∀{xs:List V} {us:ZO} (i:Nat),aS xs us->aS (xs.eraseIdx i) (us.eraseIdx i):=by
 intro xs us i p;induction p generalizing i with
 |nil=>exact .nil
 |cons r t ih =>
  cases i with
  |zero=>exact t
  |succ i=>exact .cons r<|ih i
def wx{α:Type}(l:List α):l.eraseIdx (l.length-1)=l.dropLast:=by
 induction l with
 |nil=>rfl
 |cons a r ih =>
  cases r with
  |nil=>rfl
  |cons b r =>
   have e:(a ::b ::r).length-1=((b ::r).length-1)+1:=by have h1:(a ::b ::r).length=r.length+2:=rfl;have h2:(b ::r).length=r.length+1:=rfl;lia
   rw[e,List.eraseIdx_cons_succ,ih]
   all_goals rfl
def qW{α:Type}:∀(l:List α) (i:Nat),(l.eraseIdx i).length<=l.length
 |[],_=>bW _
 |_ ::_,0=>R6 _
 |_ ::r,i+1=>Nat.succ_le_succ<|qW r i
section
variable {X:Cx}{ZY:ZN}{σ:St}{H:Hp}{s:Ww}{l:Wy}{xs ys:List V}
def Inv.lset{Wj its':ZO}{f:Array Wx->Array Wx}(I:Inv X ZY σ H s)(hH:H l=Wb (.lst xs))(e:s.heap.get? l=Wb {cls:=.type "list",data:=.seq Wj.toArray n})(hf:f Wj.toArray=its'.toArray)(hv:aS ys its')(hz:ys.length<=W0):
  Inv X ZY σ (aB H l<|.lst ys) {s with heap:=s.heap.update l<|X0 f,toks:=t'}:=by
 have q:=PySem.IsL.update e f;rw[hf]at q;refine I.write (x:=l) (e:=l) (by rw[hH];exact trivial) (.inl rfl) (λb' u hb hu=>(Heap.get?_update_other s.heap (X0 f)<|V8 hb).trans hu) ⟨_,q⟩ ?_;exact⟨hz,its',_,hv,q⟩
def Inv.lnew(I:Inv X ZY σ H s)(hv:aS ys Wj)(hz:ys.length<=W0):
  Inv X ZY σ (aB H s.heap.objs.size<|.lst ys) {s with heap:=s.heap.push {cls:=.type "list",data:=.seq Wj.toArray},toks:=t'} :=
 I.laid (λx x q=>Z2 _ q) (bW _) ⟨hz,Wj,0,hv,Y7 _ rfl⟩
def Inv.fresh(I:Inv X ZY σ H s):H s.heap.objs.size=Wc:=I.hok.fresh<|bW _
def Inv.lstM(I:Inv X ZY σ H s)(hH:H l=Wb (.lst xs)):xs.length<=W0/\∃(Wj:ZO) (n:Nat),aS xs Wj/\xs.length=Wj.length/\s.heap.get? l=Wb {cls:=.type "list",data:=.seq Wj.toArray n}:=by obtain⟨z,Wj,n,r,e⟩:=I.hok l _ hH;exact⟨z,Wj,n,r,r.length,e⟩
def AX(h:n<=W0):Q7.List.listTooLong n=We:=by unfold Q7.List.listTooLong;exact VW (by lia)
end
section
variable {X:Cx}
def sE:V->List V->Hp->VK->Prop:=λx vs H Q=>∃l xs y,x=.ref l/\vs=[y]/\H l=Wb (.lst xs)/\xs.length<W0/\Q .non (aB H l<|.lst<|xs++[y])
def cM:MtM X "list.append" sE:=by
 intro ZY s σ H x vs v us Q I rx rv h;obtain⟨l,xs,y,rfl,rfl,hH,hz,q⟩:=h;cases rx;obtain⟨u,rfl,ru⟩:=rv.one;obtain⟨z,Wj,n,r,hl,e⟩:=I.lstM hH;refine Vy F.slot_list_append ⟨_,e,rfl⟩ F.entry_list_append (F.args_list_append_2 _ _) (PySem.list_append l Wj.toArray n u (by rw[Y6];lia)) ⟨e,?_⟩;refine⟨.non,_,I.lset (its':=Wj++[u]) hH e (by simp) (r.append<|.cons ru .nil) ?_,rfl,q⟩;rw[X4,P6];lia
def y8:V->List V->Hp->VK->Prop:=λx vs H Q=>∃l b xs zs,x=.ref l/\vs=[.ref b]/\H l=Wb (.lst xs)/\H b=Wb (.lst zs)/\xs.length+zs.length<=W0/\Q .non (aB H l<|.lst<|xs++zs)
def zo:MtM X "list.extend" y8:=by
 intro ZY s σ H x vs v us Q I rx rv h;obtain⟨l,b,xs,zs,rfl,rfl,hH,hB,hz,q⟩:=h;cases rx;obtain⟨u,rfl,ru⟩:=rv.one;cases ru;obtain⟨z,Wj,n,r,hl,e⟩:=I.lstM hH;obtain⟨z2,its2,n2,r2,hl2,e2⟩:=I.lstM hB;have hsz:Wj.toArray.size+its2.toArray.size<=W0:=by rw[Y6,Y6];lia
 have hlong:¬ (!Wj.toArray.isEmpty&&Q7.List.listTooLong (Wj.toArray.size+its2.toArray.size))=Wd:=by rw[AX hsz,Bool.and_false];exact Z3
 refine Vy F.slot_list_extend ⟨_,e,rfl⟩ F.entry_list_extend (F.args_list_extend_2 _ _)
  (AutoSeq1.list_extend_list_list_0 l Wj.toArray n b its2.toArray n2 hlong (by rw[Y6];lia) (by lia)) ⟨e,e2,?_⟩
 refine⟨.non,_,I.lset (its':=Wj++its2) hH e (by simp) (r.append r2) ?_,rfl,q⟩;rw[X4];lia
def rPop:V->List V->Hp->VK->Prop:=λx vs H Q=>∃l xs y,x=.ref l/\vs=[]/\H l=Wb (.lst xs)/\xs[xs.length-1]?=Wb y/\Q y (aB H l<|.lst xs.dropLast)
def AY:MtM X "list.pop" rPop:=by
 intro ZY s σ H x vs v us Q I rx rv h;obtain⟨l,xs,y,rfl,rfl,hH,hy,q⟩:=h;cases rx;have hus:=rv.zero;subst hus;obtain⟨z,Wj,n,r,hl,e⟩:=I.lstM hH;obtain⟨u,hu,ru⟩:=r.get hy;have hy':Wj.toArray[Wj.toArray.size-1]?=Wb u:=by show Wj.toArray[Wj.length-1]?=Wb u;rw[<- R5,<- hl];exact hu
 refine Vy F.slot_list_pop ⟨_,e,rfl⟩ F.entry_list_pop (F.args_list_pop_1 _) (MeetsSeq.list_pop_last l Wj.toArray n u hy' (by rw[Y6];omega)) ⟨e,?_⟩;refine⟨y,_,I.lset (its':=Wj.dropLast) hH e ?_ r.dropLast ?_,ru,q⟩
 ·show Wj.toArray.eraseIdxIfInBounds (Wj.toArray.size-1)=Wj.dropLast.toArray;rw[Y6,List.eraseIdxIfInBounds_toArray,wx]
 ·rw[List.length_dropLast];omega
def wy:V->List V->Hp->VK->Prop:=λx vs H Q=>∃l xs i k y,x=.ref l/\vs=[.int i]/\H l=Wb (.lst xs)/\-(2^63)<=i/\i<2^63/\seqIndex? i xs.length=Wb k/\xs[k]?=Wb y/\Q y (aB H l<|.lst<|xs.eraseIdx k)
def AZ:MtM X "list.pop" wy:=by
 intro ZY s σ H x vs v us Q I rx rv h;obtain⟨l,xs,i,k,y,rfl,rfl,hH,h1,h2,hk,hy,q⟩:=h;cases rx;obtain⟨u,rfl,ru⟩:=rv.one;obtain⟨t,rfl⟩:=ru;obtain⟨z,Wj,n,r,hl,e⟩:=I.lstM hH;obtain⟨w,hw,rw'⟩:=r.get hy;refine Vy F.slot_list_pop ⟨_,e,rfl⟩ F.entry_list_pop (F.args_list_pop_2 _ _)
  (MeetsSeq.list_pop_at l Wj.toArray n i t k w (fitsIndex_both h1 h2) (by rw[Y6,<- hl];exact hk) (by rw[<- R5];exact hw) (by rw[Y6];lia)) ⟨e,?_⟩
 refine⟨y,_,I.lset (its':=Wj.eraseIdx k) hH e ?_ (r.eraseIdx k) ?_,rw',q⟩
 ·show Wj.toArray.eraseIdxIfInBounds k=(Wj.eraseIdx k).toArray;rw[List.eraseIdxIfInBounds_toArray]
 ·have:=qW xs k;lia
def wz:V->List V->Hp->VK->Prop:=λx vs H Q=>∃l xs,x=.ref l/\vs=[]/\H l=Wb (.lst xs)/\Q .non (aB H l<|.lst [])
def uo:MtM X "list.clear" wz:=by
 intro ZY s σ H x vs v us Q I rx rv h;obtain⟨l,xs,rfl,rfl,hH,q⟩:=h;cases rx;have hus:=rv.zero;subst hus;obtain⟨z,Wj,n,r,hl,e⟩:=I.lstM hH;refine Vy F.slot_list_clear ⟨_,e,rfl⟩ F.entry_list_clear (F.args_list_clear_1 _) (AutoSeq1.list_clear_list_0 l Wj.toArray n (by rw[Y6];omega)) ⟨e,?_⟩;exact⟨.non,_,I.lset (its':=[]) (ys:=[]) hH e rfl .nil<|U2 _,rfl,q⟩
end
section
set_option maxRecDepth 100000 in
end
section
variable {κ:Type}[DecidableEq κ]
def iT(kvs:List (κ×V))(k:κ):Option V:=(kvs.find? λkv=>decide<|kv.1=k).map (·.2)
def putK(kvs:List (κ×V))(k:κ)(v:V):List (κ×V) :=
 if (kvs.any λkv=>decide<|kv.1=k)=Wd then kvs.map (λkv=>if kv.1=k then (kv.1,v) else kv) else kvs++[(k,v)]
def lE{r:List (κ×V)}{k:κ}(e:p.1=k):iT (p ::r) k=Wb p.2:=by simp[iT,K9,e]
def lF{r:List (κ×V)}{k:κ}(e:¬ p.1=k):iT (p ::r) k=iT r k:=by simp[iT,K9,e]
def B0(k:κ):∀kvs:List (κ×V),(kvs.any λkv=>decide<|kv.1=k)=(iT kvs k).isSome:=by
 intro kvs;induction kvs with
 |nil=>rfl
 |cons p r ih =>
  rw[E1];by_cases e:p.1=k
  ·simp only[lE e,VU e,Bool.true_or,Option.isSome_some]
  ·rw[lF e,VW e,Bool.false_or];exact ih
def jo(kvs:List (κ×V))(k:κ)(v:V):(putK kvs k v).length<=kvs.length+1:=by
 unfold putK;split
 ·rw[Z5];lia
 ·rw[X4,X2,G9];lia
def ji.isSome_eq(r:ji o u):o.isSome=u.isSome:=by
 cases o with
 |none=>cases u with
  |none=>rfl
  |some _=>exact(show False from r).elim
 |some _=>cases u with
  |none=>exact(show False from r).elim
  |some _=>rfl
def ji.getD(r:ji o u)(rd:RelV d d'):RelV (o.getD d) (u.getD d'):=by
 cases o with
 |none=>cases u with
  |none=>exact rd
  |some _=>exact(show False from r).elim
 |some _=>cases u with
  |none=>exact(show False from r).elim
  |some _=>exact r
def KV.val(r:KV kvs vs)(k:κ):ji (iT kvs k) (valueAt vs k):=by
 unfold KV at r;induction r with
 |nil=>exact K8
 |@cons p q ps qs h t ih =>
  obtain⟨h1,h2⟩:=h;by_cases e:p.1=k
  ·have e':q.1=k:=h1.symm.trans e;have b:valueAt (q ::qs) k=Wb q.2:=by simp[valueAt,K9,e']
   rw[lE e,b];exact h2
  ·have e':¬ q.1=k:=λz=>e<|h1.trans z;have b:valueAt (q ::qs) k=valueAt qs k:=by simp[valueAt,K9,e']
   rw[lF e,b];exact ih
def KV.any(r:KV kvs vs)(k:κ):(kvs.any λkv=>decide<|kv.1=k)=vs.any λkv=>decide (kv.1=k):=by
 unfold KV at r;induction r with
 |nil=>rfl
 |cons h t ih=>rw[E1,E1,ih,h.1]
def KV.repl(r:KV kvs vs)(k:κ)(ry:RelV y u):
  KV (kvs.map λkv=>if kv.1=k then (kv.1,y) else kv) (vs.map λkv=>if kv.1=k then (kv.1,u) else kv):=by
 unfold KV at r ⊢;induction r with
 |nil=>exact .nil
 |@cons p q ps qs h t ih =>
  rw[V7,V7];refine .cons ?_ ih;obtain⟨h1,h2⟩:=h;by_cases e:p.1=k
  ·rw[VP e,VP (h1.symm.trans e)];exact⟨h1,ry⟩
  ·rw[VQ e,VQ λz=>e<|h1.trans z];exact⟨h1,h2⟩
def KV.put(r:KV kvs vs)(k:κ)(ry:RelV y u):KV (putK kvs k y) (stored vs k u):=by
 unfold putK stored;rw[r.any k];by_cases e:(vs.any λkv=>decide<|kv.1=k)=Wd
 ·rw[VP e,VP e];exact r.repl k ry
 ·rw[VQ e,VQ e];exact Paired.snoc r ⟨rfl,ry⟩
def KV.length{vs:List (κ×Wx)}(r:KV kvs vs):kvs.length=vs.length:=Paired.length r
end
def oV(r:RelV (kV k) u):(bi P w).is k u=Wd:=by
 cases k with
 |inl i=>obtain⟨t,rfl⟩:=(show ∃t,u=P3 i t from r);exact u4 P w i t
 |inr x=>obtain⟨t,rfl⟩:=(show ∃t,u=Value.str x t from r);exact u5 P w x t
def zt:∀{ks:List Key} {us:ZO},aS (ks.map kV) us->ItemsAre (bi P w) ks us:=by
 intro ks;induction ks with
 |nil=>intro us r;rw[List.map_nil]at r;cases r;exact .nil
 |cons k ks ih =>
  intro us r;rw[V7]at r;cases r with
  |cons h t=>exact .cons (oV h)<|ih t
abbrev KT(H:Hp):List (List Key×V)->List (List Key×Wy×Wx)->Prop:=Paired λp q=>p.1=q.1/\H q.2.1=Wb (.tup<|p.1.map kV)/\RelV p.2 q.2.2
def KT.val(r:KT H kvs xs)(k:List Key):ji (iT kvs k) ((atKey xs k).map (·.2)):=by
 induction r with
 |nil=>exact K8
 |@cons p q ps qs h t ih =>
  obtain⟨h1,_,h2⟩:=h;by_cases e:p.1=k
  ·have e':q.1=k:=h1.symm.trans e;have b:atKey (q ::qs) k=Wb q.2:=by simp[atKey,K9,e']
   rw[lE e,b];exact h2
  ·have e':¬ q.1=k:=λz=>e<|h1.trans z;have b:atKey (q ::qs) k=atKey qs k:=by simp[atKey,K9,e']
   rw[lF e,b];exact ih
def KT.repl(r:KT H kvs xs)(k:List Key)(ry:RelV y u):
  KT H (kvs.map λkv=>if kv.1=k then (kv.1,y) else kv) (xs.map<|putAt k u):=by
 induction r with
 |nil=>exact .nil
 |@cons p q ps qs h t ih =>
  rw[V7,V7];refine .cons ?_ ih;obtain⟨h1,h2,h3⟩:=h;unfold putAt;by_cases e:p.1=k
  ·rw[VP e,VP (h1.symm.trans e)];exact⟨h1,h2,ry⟩
  ·rw[VQ e,VQ λz=>e<|h1.trans z];exact⟨h1,h2,h3⟩
def KT.put(r:KT H kvs xs)(k:List Key)(hb:H b=Wb (.tup<|k.map kV))(ry:RelV y u):
  KT H (putK kvs k y) (storedH xs k b u):=by
 have e:(kvs.any λkv=>decide<|kv.1=k)=(atKey xs k).isSome:=by rw[B0,(r.val k).isSome_eq,Option.isSome_map]
 unfold putK storedH;rw[e];by_cases q:(atKey xs k).isSome=Wd
 ·rw[VP q,VP q];exact r.repl k ry
 ·rw[VQ q,VQ q];exact Paired.snoc r ⟨rfl,hb,ry⟩
def KT.keeps(r:KT H kvs xs)(ht:∀b ys,H b=Wb (.tup ys)->H' b=Wb (.tup ys)):KT H' kvs xs :=
 Paired.mapP r λx x z=>⟨z.1,ht _ _ z.2.1,z.2.2⟩
section
variable {P:W7}{w:WB}{H:Hp}{h:WD}{a:Wy}
def rd_of(ok:l7 P w H h)(e:Rd H a u):bA P w H h a u:=e.ok ok
def oW(ok:l7 P w H h)(e:Rd H a (.dK kvs)):kvs.length<=W0/\(a==G0)=We/\∃vs,KV kvs vs/\h.DictOf (bi P w) a vs :=
 show bA P w H h a (.dK kvs) from rd_of ok e
def y9(ok:l7 P w H h)(e:H a=Wb (.dK kvs)):kvs.length<=W0/\(a==G0)=We/\∃vs,KV kvs vs/\h.DictOf (bi P w) a vs:=oW ok<|.inl e
def mF(ok:l7 P w H h)(e:H a=Wb (.tup<|ks.map kV)):(Vs<|bi P w).is h ks a:=by obtain⟨_,Wj,r,o,h1,h2,n,h3⟩:=(show bA P w H h a (.tup<|ks.map kV) from ok a _ e);exact⟨o,Wj.toArray,n,h1,h2,h3,by simpa using zt r⟩
def oX(ok:l7 P w H h)(e:Rd H a (.dT kvs)):kvs.length<=W0/\(a==G0)=We /\
  ∃xs,KT H kvs xs/\h.DictOfH (Vs<|bi P w) a xs:=by
 obtain⟨z,y,xs,r,o,es,ep,h1,h2,h3,h4,h5⟩:=(show bA P w H h a (.dT kvs) from rd_of ok e);refine⟨z,y,xs,r,o,es,ep,h1,h2,h3,h4,λx hx=>?_,h5⟩;have all:∀{l:List (List Key×V)} {m:List (List Key×Wy×Wx)},KT H l m->∀x∈m,(Vs<|bi P w).is h x.1 x.2.1:=by
  intro l m q;induction q with
  |nil=>intro x hx;exact nomatch hx
  |@cons p q ps qs hq t ih =>
   intro x hx;rcases Y1.mp hx with e|hx
   ·subst e;exact mF ok (by rw[<- hq.1];exact hq.2.1)
   ·exact ih x hx
 exact all r x hx
def dt_of(ok:l7 P w H h)(e:H a=Wb (.dT kvs)):kvs.length<=W0/\(a==G0)=We /\
  ∃xs,KT H kvs xs/\h.DictOfH (Vs<|bi P w) a xs:=oX ok<|.inl e
end
def mG(H:Hp)(a:Wy)(y:V)(r:Option V):Prop :=
 (∃kvs k,Rd H a (.dK kvs)/\y=kV k/\r=iT kvs k)\/∃kvs k b,Rd H a (.dT kvs)/\y=.ref b/\H b=Wb (.tup<|k.map kV)/\r=iT kvs k
def B1(H:Hp)(a:Wy)(y v:V)(H':Hp):Prop :=
 (∃kvs k,H a=Wb (.dK kvs)/\y=kV k/\kvs.length<W0/\H'=aB H a (.dK<|putK kvs k v)) \/
 ∃kvs k b,H a=Wb (.dT kvs)/\y=.ref b/\H b=Wb (.tup<|k.map kV)/\kvs.length<W0/\H'=aB H a (.dT<|putK kvs k v)
def mG.k{k:Key}(e:H a=Wb (.dK kvs)):mG H a (kV k) (iT kvs k):=.inl ⟨kvs,k,.inl e,rfl,rfl⟩
def B1.k{k:Key}(e:H a=Wb (.dK kvs))(hl:kvs.length<W0):B1 H a (kV k) v (aB H a<|.dK<|putK kvs k v):=.inl ⟨kvs,k,e,rfl,hl,rfl⟩
section
variable {X:Cx}{ZY:ZN}{σ:St}{H:Hp}{s:Ww}{a:Wy}{y v:V}{u r:Wx}{o:Option V}{A:WE}{E:ZU}
def Inv.big(I:Inv X ZY σ H s):G0<s.heap.objs.size:=by have h:S6<s.heap.objs.size:=(I.mod.glob.keeps I.bk).lt;exact fD (by decide) h
def zu{Q:ZU}(hu:A.units+1<WO)(I:Inv X ZY σ H s)(g:mG H a y (Wb v))(ry:RelV y u)(h:∀w' s',Inv X ZY σ H s'->RelV v w'->Q w' s'):
  Wz (WA X.prog X.w) A (getItem (.ref a) u) Q E s:=by
 rcases g with ⟨kvs,k,e,ey,l⟩|⟨kvs,k,b,e,ey,eb,l⟩
 ·subst ey;obtain⟨z,hd,vs,rel,dd⟩:=oW I.hok e;obtain⟨w',hw,rw'⟩:=ji.some_of (v:=v) (o:=valueAt vs k) (by rw[l];exact rel.val k);exact wpAny_getItem_of (oV ry) dd.mapOf hw<|h w' _ (I.tok _) rw'
 ·subst ey;cases (show u=U6 b from ry);obtain⟨z,hd,xs,rel,dd⟩:=oX I.hok e;obtain⟨w',hw,rw'⟩:=ji.some_of (v:=v) (o:=(atKey xs k).map (·.2)) (by rw[l];exact rel.val k);obtain⟨p,hp,hp2⟩:=S7.mp hw;refine wpAny_getItem_heap (D6 hu) (mF I.hok eb) dd hp ?_;rw[hp2];exact h w' _ (I.tok _) rw'
def d_in{Q:ZU}(hu:A.units+1<WO)(I:Inv X ZY σ H s)(g:mG H a y o)(ry:RelV y u)(h:∀s',Inv X ZY σ H s'->Q (.bool o.isSome) s'):
  Wz (WA X.prog X.w) A (R8 .In u<|.ref a) Q E s:=by
 rcases g with ⟨kvs,k,e,ey,l⟩|⟨kvs,k,b,e,ey,eb,l⟩
 ·subst ey;obtain⟨z,hd,vs,rel,dd⟩:=oW I.hok e;refine wpAny_in_of (oV ry) hd dd.mapOf ?_;rw[<- (rel.val k).isSome_eq,<- l];exact h _<|I.tok _
 ·subst ey;cases (show u=U6 b from ry);obtain⟨z,hd,xs,rel,dd⟩:=oX I.hok e;refine wpAny_in_heap (D6 hu) (mF I.hok eb) hd dd ?_;have q:=(rel.val k).isSome_eq;rw[Option.isSome_map]at q;rw[<- q,<- l];exact h _<|I.tok _
def d_notIn{Q:ZU}(hu:A.units+1<WO)(I:Inv X ZY σ H s)(g:mG H a y o)(ry:RelV y u)(h:∀s',Inv X ZY σ H s'->Q (.bool<|!o.isSome) s'):
  Wz (WA X.prog X.w) A (R8 .NotIn u<|.ref a) Q E s:=by
 rcases g with ⟨kvs,k,e,ey,l⟩|⟨kvs,k,b,e,ey,eb,l⟩
 ·subst ey;obtain⟨z,hd,vs,rel,dd⟩:=oW I.hok e;refine wpAny_notIn_of (oV ry) hd dd.mapOf ?_;rw[<- (rel.val k).isSome_eq,<- l];exact h _<|I.tok _
 ·subst ey;cases (show u=U6 b from ry);obtain⟨z,hd,xs,rel,dd⟩:=oX I.hok e;refine wpAny_notIn_heap (D6 hu) (mF I.hok eb) hd dd ?_;have q:=(rel.val k).isSome_eq;rw[Option.isSome_map]at q;rw[<- q,<- l];exact h _<|I.tok _
def sF(I:Inv X ZY σ H s)(mu:Mut (H a))(hs:S8 a s.heap h')(he:∃q,h'.get? a=Wb q)(new:bA X.prog X.w (aB H a ob) h' a ob):
  Inv X ZY σ (aB H a ob) {s with heap:=h',toks:=t'} :=
 I.write (x:=a) (e:=a) mu (.inl rfl) (λb q hb z=>(hs.2 b hb).trans z) he new
def B2(z:kvs.length<=W0)(hd:(a==G0)=We)(rel:KV kvs vs)(dd:h'.DictOf (bi P w) a vs):
  bA P w H' h' a (.dK kvs):=⟨z,hd,vs,rel,dd⟩
def zv{Q:Unit->Ww->Prop}(hu:A.units+1<WO)(I:Inv X ZY σ H s)(g:B1 H a y v H')(ry:RelV y u)(rv:RelV v r)(h:∀s',Inv X ZY σ H' s'->Q () s'):
  Wz (WA X.prog X.w) A (setItem (.ref a) u r) Q E s:=by
 rcases g with ⟨kvs,k,e,ey,l,eH⟩|⟨kvs,k,b,e,ey,eb,l,eH⟩
 ·subst ey eH;obtain⟨z,hd,vs,rel,dd⟩:=y9 I.hok e;have hz:vs.length<=W0:=by rw[<- rel.length];exact z
  have hl:(putK kvs k v).length<=W0:=by have:=jo kvs k v;lia
  refine wpAny_setItem_pairs (hsz:=hz) (oV ry) dd λh' dd' hs=>h _ ?_;have he:∃q,h'.get? a=Wb q:=oq32 dd' λq x x hq x=>⟨q,hq⟩;exact sF I (by rw[e];exact K8) hs he<|B2 hl hd (rel.put k rv) dd'
 ·subst ey eH;cases (show u=U6 b from ry);obtain⟨z,hd,xs,rel,dd⟩:=dt_of I.hok e;have hz:xs.length<=W0:=by rw[<- Paired.length rel];exact z
  have hl:(putK kvs k v).length<=W0:=by have:=jo kvs k v;lia
  refine wpAny_setItem_heap (hsz:=hz) (D6 hu) (mF I.hok eb) dd λh' dd' hs=>h _ ?_;obtain⟨q,es,ep,hq,h2,h3,h4,_,h5⟩:=dd';refine sF I (by rw[e];exact K8) hs ⟨q,hq⟩ ⟨hl,hd,_,(rel.put k eb rv).keeps λc ys ec=>?_,q,es,ep,hq,h2,h3,h4,h5⟩;rw[ah (ne_of ec e λz=>nomatch z)];exact ec
end
def NoSl(i:WC):Prop:=∀ov iv,subscripted i We ov iv=operate [ov,iv] (getItem ov iv)
def subD_of{E:ZU}{T id:String}{Q:ZU}(hl:typeLookup (.type T) "__getitem__"=pure (Wb<|.builtin id))(hs:NoSl slice)(h:Wz (WA prog w) A (WF value env) (λo s₁=>Wz (WA prog w) A (WF slice env) (λi s₂=>s₂.TypeIs o T/\Wz (WA prog w) A (getItem o i) Q E s₂) E s₁) E s):
  Wz (WA prog w) A (WF (.Subscript value slice pos) env) Q E s:=by
 refine Subscript_ (T8 h (λo s₁ h₁=>T8 h₁ (λi s₂ h₂=>?_) λa a x=>x) λa a x=>x);obtain⟨hT,h₂⟩:=h₂;unfold subscriptTail;refine Z0 ?_;rw[getitemInPython_of_ne hT.not_modules];refine Z0<|Vj hT hl ?_;have fin:Wz (WA prog w) A (subscripted slice We o i) (λr s₃=>Wz (WA prog w) A (letTemporaryGo value o r >>= λa=>pure r) Q E s₃) E s₂:=by rw[hs o i];exact wpAny_operating (T8 h₂ (λr s₃ h₃=>Z0<|wpAny_letTemporaryGo<|Z8 h₃) λa a x=>x)
 first
  |exact Z8<|Z0 fin
  |exact Z0<|Z8<|Z0 fin
  |exact Z0 fin
def uq{σ:St}(I:Inv X ZY σ H s)(g:mG H a y o):s.TypeIs (.ref a) "dict":=by
 rcases g with ⟨kvs,k,e,_,_⟩|⟨kvs,k,b,e,_,_,_⟩
 ·obtain⟨_,_,vs,_,dd⟩:=oW I.hok e;exact dd.typeIs
 ·obtain⟨_,_,xs,_,dd⟩:=oX I.hok e;exact dd.typeIs
def tDGet(td ty:TE):TE:=λσ H Q=>td σ H λx H1=>ty σ H1 λy H2=>∃a v,x=.ref a/\mG H2 a y (Wb v)/\Q v H2
def ya(ty td:TE):TE:=λσ H Q=>ty σ H λy H1=>td σ H1 λx H2=>∃a o,x=.ref a/\mG H2 a y o/\Q (.bl<|!o.isSome) H2
def B3(td ty tv:TE):TS:=λD σ H=>tv σ H λv H1=>td σ H1 λx H2=>ty σ H2 λy H3=>∃a H4,x=.ref a/\B1 H3 a y v H4/\D.nx σ H4
section
variable {X:Cx}{o i value:WC}{pos Ws:Pos}{td ty tv:TE}
def yb(hu:X.A.units+1<WO)(ho:PE X o td)(hi:PE X i ty)(hs:NoSl i):PE X (.Subscript o i pos) (tDGet td ty):=by intro ZY s σ H Q I h;refine subD_of PySem.F.slot_dict_getitem.lookup hs (bI (ho ZY s σ H _ I h) λu s1 ⟨x,H1,I1,rx,q1⟩=>bI (hi ZY s1 σ H1 _ I1 q1) λiv s2 ⟨y,H2,I2,ry,a,v,ex,g,q2⟩=>?_);subst ex;obtain rfl:u=U6 a:=rx;exact⟨uq I2 g,zu hu I2 g ry λw' s3 I3 rw'=>⟨v,H2,I3,rw',q2⟩⟩
def jL(hu:X.A.units+1<WO)(hi:PE X i ty)(ho:PE X o td):PC X .NotIn i o (ya ty td):=by intro ZY s σ H Q I h;refine bI (hi ZY s σ H _ I h) λiv s1 ⟨y,H1,I1,ry,q1⟩=>bI (ho ZY s1 σ H1 _ I1 q1) λu s2 ⟨x,H2,I2,rx,a,ov,ex,g,q2⟩=>?_;subst ex;obtain rfl:u=U6 a:=rx;exact d_notIn hu I2 g ry λs3 I3=>⟨.bl<|!ov.isSome,H2,I3,rfl,q2⟩
def iU(hu:X.A.units+1<WO)(ho:PE X o td)(hi:PE X i ty)(hv:PE X value tv)(hs:Vt value (Wb<|.Subscript o i Ws) pos.line X.env=pure We):
  PS X (.Assign [.Subscript o i Ws] value pos) (B3 td ty tv):=by
 intro ZY s σ H D I h;refine wpAny_Assign_Subscript (bI (hv ZY s σ H _ I h) λr s1 ⟨v,H1,I1,rv,q1⟩=>bI (ho ZY s1 σ H1 _ I1 q1) λu s2 ⟨x,H2,I2,rx,q2⟩=>bI (hi ZY s2 σ H2 _ I2 q2) λiv s3 ⟨y,H3,I3,ry,a,H4,ex,g,q3⟩=>?_) hs;subst ex;obtain rfl:u=U6 a:=rx;exact zv hu I3 g ry rv λs4 I4=>⟨σ,H4,I4,q3⟩
end
def ut(h:WD)(hb:G0<h.objs.size):bA P w H (h.push {cls:=.type "dict",data:=.dict #[]}) h.objs.size (.dK []) :=
 ⟨U2 _,beq_eq_false_iff_ne.mpr<|V8<|eP hb,[],.nil,Heap.DictOf.new h⟩
def oY:TE:=λx H Q=>∀p,H p=Wc->Q (.ref p) (aB H p<|.dK [])
section
variable {X:Cx}{pos:Pos}
def jp:PE X (.Dict [] [] pos) oY:=λZY s σ H Q I h =>
 wpAny_Dict_empty ⟨.ref s.heap.objs.size,_,I.laid (a:=s.heap.objs.size) (o:=.dK []) (t':=s.toks) (λx x q=>Z2 _ q) (bW _)<|ut s.heap I.big,rfl,h _<|I.hok.fresh<|bW _⟩
end
def wA:List (TE×TE)->St->Hp->(List (V×V)->Hp->Prop)->Prop
 |[],_,H,Q=>Q [] H
 |(tk,tv) ::r,σ,H,Q=>tk σ H λx H1=>tv σ H1 λy H2=>wA r σ H2 λps H3=>Q ((x,y) ::ps) H3
abbrev VV:List (V×V)->List (Wx×Wx)->Prop:=Paired λp q=>RelV p.1 q.1/\RelV p.2 q.2
def PPs(X:Cx)(pos:Pos)(keys:List (Option WC))(values:List WC)(trs:List (TE×TE)):Prop :=
 ∀(ZY:ZN) (s:Ww) (σ:St) (H:Hp) (Q:List (V×V)->Hp->Prop),Inv X ZY σ H s->wA trs σ H Q ->
  Wz (WA X.prog X.w) X.A (evalPairs<|pairTrees keys values X.env pos) (λvs s'=>∃ps H',Inv X ZY σ H' s'/\VV ps vs/\Q ps H') X.xe s
def pps_nil:PPs X pos [] [] []:=λZY s σ H Q I h=>pairTrees_nil_walk ⟨[],H,I,.nil,h⟩
def B4(hk:PE X k tk)(hv:PE X v tv)(hr:PPs X pos ks vs trs):
  PPs X pos (Wb k ::ks) (v ::vs) ((tk,tv) ::trs):=λZY s σ H Q I h =>
 pairTrees_cons_walk (bI (hk ZY s σ H _ I h) λu s1 ⟨x,H1,I1,rx,q1⟩=>bI (hv ZY s1 σ H1 _ I1 q1) λw2 s2 ⟨y,H2,I2,ry,q2⟩=>
  bI (hr ZY s2 σ H2 _ I2 q2) λws s3 ⟨ps,H3,I3,rel,q3⟩=>⟨(x,y) ::ps,H3,I3,.cons ⟨rx,ry⟩ rel,q3⟩)
def kF(kvs more:List (Key×V)):List (Key×V):=more.foldl (λWo kv=>putK Wo kv.1 kv.2) kvs
def KV.merge:∀{more:List (Key×V)} {rs:List (Key×Wx)} {kvs:List (Key×V)} {vs:List (Key×Wx)},KV more rs->KV kvs vs->KV (kF kvs more) (merged vs rs):=by
 intro more rs kvs vs r;unfold KV at r;induction r generalizing kvs vs with
 |nil=>intro q;exact q
 |@cons p q ps qs h t ih =>
  intro r0;have e:KV (putK kvs p.1 p.2) (stored vs q.1 q.2):=by have:=r0.put p.1 h.2;rw[<- h.1];exact this
  exact ih e
def qw:∀(more kvs:List (Key×V)),(kF kvs more).length<=kvs.length+more.length:=by
 intro more;induction more with
 |nil=>exact λkvs=>bW _
 |cons p r ih=>exact λkvs=>aO (ih<|putK kvs p.1 p.2) (by have h2:=jo kvs p.1 p.2;rw[X2];lia)
def wB:∀{kvs:List (Key×V)} {ws:List (Wx×Wx)},VV (kvs.map λkv=>(kV kv.1,kv.2)) ws->∃rs,Carries (bi P w) ws rs/\KV kvs rs:=by
 intro kvs;induction kvs with
 |nil=>intro ws r;rw[List.map_nil]at r;cases r;exact⟨[],K8,.nil⟩
 |cons p kvs ih =>
  intro ws r;rw[V7]at r;cases r with
  |@cons a b as bs h t=>exact bN (ih t) λrs c q=>⟨(p.1,b.2) ::rs,⟨oV h.1,rfl,c⟩,.cons ⟨rfl,h.2⟩ q⟩
def tDisp(trs:List (TE×TE)):TE:=λσ H Q=>∀p,H p=Wc->wA trs σ (aB H p<|.dK []) λps H2=>H2 p=Wb (.dK [])/\∃kvs:List (Key×V),ps=kvs.map (λkv=>(kV kv.1,kv.2))/\kvs.length<=15/\Q (.ref p) (aB H2 p<|.dK<|kF [] kvs)
def pe_disp(h:PPs X pos keys values trs)(hall:keys.all (·.isSome)=Wd)(hl:keys.length=values.length)(h0:keys≠[])(h15:keys.length<=15):PE X (.Dict keys values pos) (tDisp trs):=by
 intro ZY s σ H Q I q;have hn:=I.hok.fresh<|bW s.heap.objs.size;have I1:=I.laid (a:=s.heap.objs.size) (o:=.dK []) (h':=s.heap.push {cls:=.type "dict",data:=.dict #[]}) (t':=s.toks) (λx x q=>Z2 _ q) (bW _)<|ut s.heap I.big;refine wpAny_Dict_walk (knd:=bi X.prog X.w) hall hl h0 h15 (bI (h ZY _ σ _ _ I1<|q _ hn) λws s2 ⟨ps,H2,I2,rel,e,kvs,ep,lk,q2⟩=>?_);subst ep;obtain⟨rs,c,rk⟩:=wB (P:=X.prog) (w:=X.w) rel;obtain⟨z,hd,vs0,r0,dd⟩:=y9 I2.hok e;cases r0;refine⟨rs,c,dd,λh' dd' hs=>⟨.ref s.heap.objs.size,_,?_,rfl,q2⟩⟩;have hz:(kF [] kvs).length<=W0:=by have h1:=qw kvs [];rw[G9]at h1;rw[V0];lia
 have he:∃q,h'.get? s.heap.objs.size=Wb q:=oq32 dd' λq x x hq x=>⟨q,hq⟩;exact sF I2 (by rw[e];exact K8) hs he<|B2 hz hd (rk.merge .nil) dd'
structure M2(X:Cx)(o:WC)(m:Str)(Wq:Pos)(e f:WC)(cpos:Pos):Prop where
 base:J5 o m X.env (WF o X.env)=WF o X.env
 few:((WI cpos<|X5 [e,f] X.env).all (λx=>!x.1)&&(Vv cpos<|WW [] X.env).all (λx=>x.1.isSome)
 &&decide (([e,f]:List WC).length+([]:List Keyword).length+(if ([]:List Keyword).isEmpty then 0 else 1)<30))=Wd
 line:(Wq.endLine==cpos.line)=Wd
 trees:WI cpos (X5 [e,f] X.env)=[(We,WF e X.env),(We,WF f X.env)]
def IsD(H:Hp)(a:Wy):Prop:=(∃kvs,Rd H a (.dK kvs))\/∃kvs,Rd H a (.dT kvs)
def isD_at{σ:St}(I:Inv X ZY σ H s)(d:IsD H a):
  s.TypeIs (.ref a) "dict"/\(∀b,U6 a=.ref b->∃ob,s.heap.get? b=Wb ob/\ob.dict=Wc)/\(a==G0)=We:=by
 rcases d with ⟨kvs,e⟩|⟨kvs,e⟩
 ·obtain⟨_,hd,vs,_,dd⟩:=oW I.hok e;refine⟨dd.typeIs,λb q=>?_,hd⟩;cases q;obtain⟨ob,_,_,h1,h2,_⟩:=dd;exact⟨ob,h1,h2.2.1⟩
 ·obtain⟨_,hd,xs,_,dd⟩:=oX I.hok e;refine⟨dd.typeIs,λb q=>?_,hd⟩;cases q;obtain⟨ob,_,_,h1,h2,_⟩:=dd;exact⟨ob,h1,h2.2.1⟩
section
variable {X:Cx}{ZY:ZN}{σ:St}{H:Hp}{s:Ww}{a:Wy}{y d:V}{u r:Wx}{o:Option V}{A:WE}{E:ZU}
def d_get2{Q:ZU}(hu:A.units+1<WO)(I:Inv X ZY σ H s)(g:mG H a y o)(ry:RelV y u)(rd:RelV d r)(h:∀w' s',Inv X ZY σ H s'->RelV (o.getD d) w'->Q w' s'):
  Wz (WA X.prog X.w) A (call (.builtin "dict.get") [.ref a,u,r]) Q E s:=by
 rcases g with ⟨kvs,k,e,ey,l⟩|⟨kvs,k,b,e,ey,eb,l⟩
 ·subst ey;obtain⟨z,hd,vs,rel,dd⟩:=oW I.hok e;refine call_meetsIn PySem.F.slot_dict_get dd.typeIs PySem.F.entry_dict_get (PySem.F.args_dict_get_3 _ _ _) (meets_dict_get_default (bi X.prog X.w) a (oV ry) hd r) ⟨_,dd.mapOf,h _ _ (I.tok _) ?_⟩;rw[l];exact(rel.val k).getD rd
 ·subst ey;cases (show u=U6 b from ry);obtain⟨z,hd,xs,rel,dd⟩:=oX I.hok e;refine call_meetsIn PySem.F.slot_dict_get dd.typeIs PySem.F.entry_dict_get (PySem.F.args_dict_get_3 _ _ _) (meetsH_dict_get_default (Vs<|bi X.prog X.w) a b hd r) ⟨D6 hu,k,xs,mF I.hok eb,dd,h _ _ (I.tok _) ?_⟩;rw[l];exact(rel.val k).getD rd
end
def B5(td ty tx:TE):TE:=λσ H Q=>td σ H λx H1=>∃a,x=.ref a/\IsD H1 a/\ty σ H1 λy H2=>tx σ H2 λz H3=>∃o,mG H3 a y o/\Q (o.getD z) H3
section
variable {X:Cx}{o e f:WC}{Wq cpos:Pos}{td ty tx:TE}
def uu(hu:X.A.units+1<WO)(ho:PE X o td)(he:PE X e ty)(hf:PE X f tx)(m:M2 X o "get" Wq e f cpos):PE X (.Call (.Attribute o "get" Wq) [e,f] [] cpos) (B5 td ty tx):=by
 intro ZY s σ H Q I h;refine wpAny_Call_method m.base m.few m.line PySem.F.plainAttrs_dict PySem.F.slot_dict_get PySem.F.type_dict_get (bI (ho ZY s σ H _ I h) λu s1 ⟨x,H1,I1,rx,a,ex,d,q1⟩=>?_);subst ex;obtain rfl:u=U6 a:=rx;obtain⟨t1,t2,_⟩:=isD_at I1 d;refine⟨t1,t2,?_⟩;rw[m.trees];refine Calls.callWith_builtin rfl (Calls.evalArgs_plain (Calls.spliced_cons (bI (he ZY s1 σ H1 _ I1 q1) λiv s2 ⟨y,H2,I2,ry,q2⟩=>
  Calls.spliced_cons (bI (hf ZY s2 σ H2 _ I2 q2) λfv s3 ⟨z,H3,I3,rz,ov,g,q3⟩=>Calls.spliced_nil ?_))))
 exact d_get2 hu I3 g ry rz λw' s4 I4 rw'=>⟨_,H3,I4,rw',q3⟩
end
end L2

namespace Att
open PySem PySem.W PySem.Calls PyProof.Rows
def nR:∀(ns:ZW) (vs:ZO),WellAll P h vs (ns.map WData.int)->L4 vs ns:=by
 intro ns;induction ns with
 |nil =>intro vs w;rw[List.map_nil]at w;cases w;exact .nil
 |cons n ns ih =>
  intro vs w;rw[V7]at w;cases w with
  |cons a b =>cases a;exact .cons _ _<|ih _ b
def zw{l:OpenLaw}(hn:l.most=Wb n)(hpre:l.row.toRowW.claim.pre args=Wd)(hwl:WellAll P h vals args):
  ∃a vs ns,vals=[U6 a]/\args=[WData.list (ns.map WData.int)]/\h.get? a=Wb {cls:=.type "list",data:=.seq vs.toArray}/\L4 vs ns/\ns.length<=n:=by
 have hsh:WShape.hasAll [] args [.list .int]=Wd:=(pre_splitW hpre).1;have hc:l.pre.holds [] {args:=args}=Wd:=(pre_splitW hpre).2;obtain⟨d,r,rfl,h1,h2⟩:=hasAllW_cons hsh;obtain rfl:=hasAllW_nil h2;obtain⟨xs,rfl,h3⟩:=hasW_list h1;obtain⟨ns,rfl⟩:=items_int h3;have hlen:ns.length<=n:=by
  unfold OpenLaw.pre at hc;have h4:(WTm.not<|.lt (.lit<|.int (n:Int))<|.len<|.arg 0).holds [] {args:=[.list (ns.map .int)]}=Wd:=by have h4:=(holds_andW hc).1;rw[hn]at h4;exact h4
  have h5:=condW_of h4<|w_not<|w_lt w_lit<|w_len_list<|w_arg rfl;rw[Z5]at h5;refine Q6 λq=>?_;have q':(n:Int)<((ns.length:Nat):Int):=by omega
  first
   |(rw[VU q']at h5;exact VR h5 (by decide))
   |(simp at h5;omega)
 cases hwl with
 |cons w1 w2 =>
  cases w2;cases w1 with
  |list ho hall=>exact⟨_,_,ns,rfl,rfl,ho,nR ns _ hall,hlen⟩
def zx(l:OpenLaw)(args:List WData):l.row.toRowW.claim.post args (.bool Wd) args=Wd :=
 postW_of (r:=l.row.toRowW) (X:=(Wd==Wd))
  (show WShape.has [] (.bool Wd) .bool=Wd by first|rfl|decide|simp[WShape.has,WShape.arms,WShape.armsAll])
  (show (WTm.eq .res<|.lit<|.bool Wd).value [] {args:=args,res:=Wb<|.bool Wd,after:=args}=Wb (.bool<|true==Wd) from w_eq_bool (w_res rfl) w_lit) rfl
def uv{l:OpenLaw}{XP:(Str->Option Wx)->WD->Prop}{YP:WB->WD->Prop}(hn:l.most=Wb n)(hdf:d.params.defaults=[])(call:∀(w:WB) (s₀ s₁:Ww) (mg mb:ZM) (fa:Wy) (o:Obj) (pm cd Wu:Wx) (a:Wy) (vs:ZO) (ns:ZW),
   Ground q loose [] XP w s₀ mg mb s₁.heap->YP w s₁.heap ->
   s₁.heap.get? fa=Wb o->o.data=.func (docDef d.name d.params d.body d.scope pm cd Wu)->s₁.heap.CodeRec cd d.name->mg d.name=Wb (.ref fa) ->
   s₁.heap.get? a=Wb {cls:=.type "list",data:=.seq vs.toArray}->L4 vs ns->ns.length<=n->s₁.gens=#[] ->
   D4 (WA l.prog w) callerA (.call (.ref fa) ⟨[.ref a],[]⟩) (λr s'=>r=.ok (.ret<|.bool Wd)/\OldK s₁.heap s'.heap/\s'.os=s₁.os/\VI s'.gens) s₁):
  WalkO q loose XP YP l.row.toRowW d [] (λf vs=>PySem.call f vs):=by
 intro w s₀ s₁ mg mb G Y fa o pm cd Wu dV kV ho hd hcd hD hmg hg args vals as hpre hlay hrd hwl hlo;obtain rfl:dV=.none:=Dflts.none hD hdf;obtain rfl:kV=.none:=Dflts.noKw hD;obtain⟨a,vs,ns,rfl,rfl,hobj,hints,hlen⟩:=zw hn hpre hwl;refine enter_call (D5 (call w s₀ s₁ mg mb fa o pm cd Wu a vs ns G Y ho (fd_plain hd) hcd hmg hobj hints hlen hg) λr s' hq=>?_);obtain⟨rfl,h2,h3,h4⟩:=hq;exact⟨.inl ⟨.bool Wd,.bool Wd,[],rfl,λx=>rfl,.bool Wd,zx l _,λx=>⟨List.Pairwise.nil,λx hm=>(nomatch hm)⟩⟩,h2,h3,h4⟩
end Att

namespace L2
open PySem PySem.Spec PyProof.Rows
def iD:∀{vs:ZO} {ns:ZW},L4 vs ns->aS (ns.map V.int) vs:=λp=>by
 induction p with
 |nil=>exact .nil
 |cons n t _ ih=>exact .cons ⟨t,rfl⟩ ih
abbrev sH:CXT:=λx x x x x x=>False
abbrev E0:XK:=λx x x=>False
def qX:kD sH X E0:=λx x x x x x x h=>h.elim
structure Fun(K:Z1)(x qual:Str)(st:WH)(f:Wy)(fd:Vm):Prop where
 ex:∃(oc:Wx) (od:Zz) (kV Wu pm:Wx) (an:Zz) (ZP ct:Wx) (osl:Zm),
  fd=T5 x qual (bU st) (bb st) (ao st) .none kV Wu pm an ZP ct/\K.lookup f=Wb ⟨oc,od,.func fd,osl⟩/\N8 K ZP qual=Wd
 kp:P1 K (.ref f)=Wd
section
variable {P:W7}{w:WB}{K:Z1}{mg:ZM}{base:WD}
def Fun.ok{st:WH}(F:Fun K x qual st f fd)(S:FnScope N ps (ao st))(len:∀vs H Q E,sp vs H Q E->vs.length=ps.length)(Wv:∀(ZP:Wx) (A:WE) (outer:List Env) (s:Ww) (H:Hp) (vs:List V) (Q:VK) (E:XK),Room k (A.deeper<|VD qual (ao st) s.heap.objs.size f ZP)->sp vs H Q E ->
   ∃t,nQ (lD sH P w K mg base N qual (ao st) f ZP A outer s H E).nox (bb st) t/\t {nx:=λa H'=>Q .non H',rt:=Q} (start N vs) H):FnOk P w K mg base sH (k+1) f fd ps sp:=by
 obtain⟨oc,od,kV,Wu,pm,an,ZP,ct,osl,rfl,lk,hcd⟩:=F.ex;refine AR lk hcd S len λA outer s H vs Q E hr hsp=>?_;obtain⟨t,h,q⟩:=Wv ZP A outer s H vs Q E hr hsp;exact⟨t,h.nox,q⟩
def Fun.binds{st:WH}(F:Fun K x qual st f fd)(h:∀(kV Wu pm:Wx) (an:Zz) (ZP ct:Wx) (us:ZO),us.length=ps.length->E8 (T5 x qual (bU st) (bb st) (ao st) .none kV Wu pm an ZP ct) ⟨us,[]⟩=pure (ps.zip us)):Binds K fd ps []:=by obtain⟨oc,od,kV,Wu,pm,an,ZP,ct,osl,rfl,lk,hcd⟩:=F.ex;exact .all<|h kV Wu pm an ZP ct
def iV{st:WH}{kV Wu pm ZP ct:Wx}(l:K.lookup f=Wb ⟨oc,od,.func<|T5 x qual (bU st) (bb st) (ao st) .none kV Wu pm an ZP ct,osl⟩)(c:N8 K ZP qual=Wd)(k:P1 K (.ref f)=Wd):Fun K x qual st f (T5 x qual (bU st) (bb st) (ao st) .none kV Wu pm an ZP ct):=⟨⟨oc,od,kV,Wu,pm,an,ZP,ct,osl,rfl,l,c⟩,k⟩
end
def jd(hr:Room k A):A.units+1<WO:=dM (E5 (by decide:1<=64) _) hr.units
section
variable {X:Cx}
def pv(i:Nat){x:Str}{pos:Pos}(hN:autoParam (X.N[i]?=Wb x) cV._auto_1)(hv:Vis X.env.scope x:=by first|exact Or.inl rfl|exact Or.inr (Or.inl rfl)|exact Or.inr<|Or.inr rfl)(hd:autoParam ((x==("__debug__":Str))=We) gR._auto_1)(hcd:autoParam ((x==("__classdict__":Str))=We) gR._auto_1):PE X (.Name x pos) (bf i):=pe_var hN hv hd hcd
end
def aL(H H':Hp):Prop:=∀b o,H b=Wb o->H' b=Wb o
def aL.refl(H:Hp):aL H H:=λx x h=>h
def aL.trans(a:aL H H1)(b:aL H1 H2):aL H H2:=λc o h=>b c o<|a c o h
def aL.free(e:aL H H')(h:H' l=Option.none):H l=Option.none:=by
 cases q:H l with
 |none=>rfl
 |some o =>rw[e l o q]at h;cases h
def aL.seq{K:Z1}(e:aL H H')(h:dj K H a xs):dj K H' a xs:=by
 rcases h with (h|⟨o,h⟩)|h
 ·exact .inl<|.inl<|e _ _ h
 ·exact .inl<|.inr ⟨o,e _ _ h⟩
 ·exact .inr h
end L2
set_option maxHeartbeats 1000000
namespace Fl
def mn(i j:Int):Int:=if j<i then j else i
def mx(i j:Int):Int:=if j > i then j else i
def cellAt(ns:ZW)(k:Nat):Int:=ns.getD k 0
def mx_le(h1:a<=k)(h2:b<=k):mx a b<=k:=by unfold mx;split<;>assumption
def le_mxl(a b:Int):a<=mx a b:=by
 unfold mx;split
 ·exact Int.le_of_lt (by assumption)
 ·exact Int.le_refl _
def mn_lel(a b:Int):mn a b<=a:=by
 unfold mn;split
 ·exact Int.le_of_lt (by assumption)
 ·exact Int.le_refl _
def lG{i j c:Nat}(hj:j<c):(i*c+j)/c=i/\(i*c+j)%c=j:=by
 have hc:0<c:=by lia
 constructor
 ·rw[D7,Nat.mul_add_div hc,Nat.div_eq_of_lt hj];lia
 ·rw[D7,Nat.mul_add_mod,Nat.mod_eq_of_lt hj]
def ny(a b:Int):Int:=if a-b<0 then -(a-b) else a-b
def uw(a b:Int):ny a b=ny b a:=by unfold ny;split<;>split<;>lia
def sI(c:Nat)(Wf:Int)(x o:Nat):Bool :=
 decide (ny (o/c:Nat) (x/c:Nat)+ny (o%c:Nat) (x%c:Nat)=1\/(Wf=8/\ny (o/c:Nat) (x/c:Nat)=1/\ny (o%c:Nat) (x%c:Nat)=1))
def gE(m c:Nat)(Wf:Int)(x:Nat):List Nat:=(Z9<|m*c).filter (sI c Wf x)
def ux(c:Nat)(Wf:Int)(x o:Nat):sI c Wf x o=sI c Wf o x:=by unfold sI;rw[uw (o/c:Nat),uw (o%c:Nat)]
def cG:o∈gE m c Wf x↔o<m*c/\sI c Wf x o=Wd:=by unfold gE;rw[X7,R4]
def lH(m c:Nat)(Wf:Int)(x:Nat):(gE m c Wf x).length<=m*c:=by unfold gE;exact aO (W8 _ _) (by rw[X1];exact bW _)
def qY(p:ZH)(n:Nat):(Z9<|n+1).filter p=(Z9 n).filter p++(if p n=Wd then [n] else []):=by
 rw[List.range_succ,List.filter_append];congr 1;by_cases h:p n=Wd
 ·rw[VP h];simp[h]
 ·rw[VQ h];simp[h]
def jM(p:ZH)(a:Nat):∀(b:Nat),a<=b->(∀i,a<=i->i<b->p i=We)->(Z9 b).filter p=(Z9 a).filter p:=by
 intro b;induction b with
 |zero=>exact λh x=>Nat.le_zero.mp h▸rfl
 |succ b ih =>
  intro h hp;by_cases e:a=b+1
  ·rw[e]
  ·rw[qY,ih (by lia) λi h1 h2=>hp i h1 (by exact fD h2<|V3 _),hp b (by lia) (by exact V3 _)];simp
def B6(hk:k<c)(Wf:Int)(x r:Nat):sI c Wf x (r*c+k)=decide (ny (r:Nat) (x/c:Nat)+ny (k:Nat) (x%c:Nat)=1\/(Wf=8/\ny (r:Nat) (x/c:Nat)=1/\ny (k:Nat) (x%c:Nat)=1)):=by obtain⟨e1,e2⟩:=lG (i:=r) hk;unfold sI;rw[e1,e2]
def nz(hc:0<c)(h:o/c+1<x/c\/x/c+1<o/c):sI c Wf x o=We:=by unfold sI;rw[VT];unfold ny;split<;>split<;>omega
def nA(h:o%c+1<x%c\/x%c+1<o%c):sI c Wf x o=We:=by unfold sI;rw[VT];unfold ny;split<;>split<;>lia
end Fl

namespace Gr
inductive Rch(nb:ZD)(ok:Nat->Prop)(x:Nat):Nat->Prop where
 |here:Rch nb ok x x
 |on {y z:Nat}:Rch nb ok x y->nb y z->ok z->Rch nb ok x z
section
variable {nb:ZD}{ok:Nat->Prop}{x y z:Nat}
def Rch.closed{S:Nat->Prop}(hx:S x)(hc:∀y z,S y->nb y z->ok z->S z)(h:Rch nb ok x y):S y:=by
 induction h with
 |here=>exact hx
 |on _ h1 h2 ih=>exact hc _ _ ih h1 h2
def Rch.trans(h:Rch nb ok x y)(h':Rch nb ok y z):Rch nb ok x z:=by
 induction h' with
 |here=>exact h
 |on _ h1 h2 ih=>exact .on ih h1 h2
def Rch.ok_(hx:ok x)(h:Rch nb ok x y):ok y:=by
 cases h with
 |here=>exact hx
 |on _ _ h=>exact h
def Rch.symm(sy:∀a b,nb a b->nb b a)(hx:ok x)(h:Rch nb ok x y):Rch nb ok y x:=by
 induction h with
 |here=>exact .here
 |on h1 h2 h3 ih=>exact Rch.trans (.on .here (sy _ _ h2)<|h1.ok_ hx) ih
def Rch.mono{nb':ZD}{ok':Nat->Prop}(h1:∀a b,nb a b->ok b->nb' a b/\ok' b)(h:Rch nb ok x y):Rch nb' ok' x y:=by
 induction h with
 |here=>exact .here
 |on _ h2 h3 ih=>exact .on ih (h1 _ _ h2 h3).1 (h1 _ _ h2 h3).2
end
def dA:∀(n:Nat) {l:ZT},l.Nodup->(∀x∈l,x<n)->l.length<=n:=by
 intro n;induction n with
 |zero =>
  intro l hn h;cases l with
  |nil=>exact bW _
  |cons a l=>exact VR (h a<|Y1.mpr<|.inl rfl)<|M6 _
 |succ n ih =>
  intro l hn h;have h1:=ih (l:=l.erase n) (hn.erase n) λx hx=>by have:=(hn.mem_erase_iff).mp hx;have:=h x this.2;have:x≠n:=(hn.mem_erase_iff.mp hx).1;lia
  rw[List.length_erase]at h1;split at h1
  ·lia
  ·exact cj<|dM h1<|V3 _
structure Sea(nb:ZG)(ok:ZH)(x:Nat)(ks ws:ZT):Prop where
 nd:ks.Nodup
 x_in:x∈ks
 rch:∀k∈ks,Rch (λa b=>b∈nb a) (λa=>ok a=Wd) x k
 sub:∀w∈ws,w∈ks
 clo:∀k∈ks,k∉ws->∀o∈nb k,ok o=Wd->o∈ks
structure SeaAt(nb:ZG)(ok:ZH)(x u:Nat)(done ks ws:ZT):Prop where
 nd:ks.Nodup
 x_in:x∈ks
 rch:∀k∈ks,Rch (λa b=>b∈nb a) (λa=>ok a=Wd) x k
 sub:∀w∈ws,w∈ks
 clo:∀k∈ks,k∉ws->k≠u->∀o∈nb k,ok o=Wd->o∈ks
 u_in:u∈ks
 dn:∀o∈done,ok o=Wd->o∈ks
section
variable {nb:ZG}{ok:ZH}{x u o:Nat}{done ks ws:ZT}
def Sea.start:Sea nb ok x [x] [x]:=⟨by simp,by simp,λk hk=>by simp at hk;subst hk;exact .here,λw hw=>hw,λk hk hn=>VR hk hn⟩
def Sea.take(s:Sea nb ok x ks ws)(hu:u∈ws)(hw:∀w∈ws,w=u\/w∈ws')(hs:∀w∈ws',w∈ws):SeaAt nb ok x u [] ks ws' :=
 ⟨s.nd,s.x_in,s.rch,λw h=>s.sub w<|hs w h,λk hk hn Wr o ho=>s.clo k hk (λz=>(hw k z).elim Wr hn) o ho,s.sub u hu,λa h=>nomatch h⟩
def SeaAt.skip(s:SeaAt nb ok x u done ks ws)(h:ok o=Wd->o∈ks):SeaAt nb ok x u (done++[o]) ks ws :=
 ⟨s.nd,s.x_in,s.rch,s.sub,s.clo,s.u_in,λp hp=>by
  rcases Y9.mp hp with z|z
  ·exact s.dn p z
  ·rw[Y0.mp z];exact h⟩
def SeaAt.add(s:SeaAt nb ok x u done ks ws)(ho:o∈nb u)(hok:ok o=Wd)(hn:o∉ks)(hw:∀w,w∈ws'↔w∈ws\/w=o):SeaAt nb ok x u (done++[o]) (ks++[o]) ws':=by
 refine⟨?_,X8 _ s.x_in,λk hk=>?_,λw h=>?_,λk hk hnk Wr p hp hp'=>?_,X8 _ s.u_in,λp hp hp'=>?_⟩
 ·rw[K0];exact⟨s.nd,by simp,λa ha b hb=>by rw[Y0.mp hb];rintro rfl;exact hn ha⟩
 ·rcases Y9.mp hk with z|z
  ·exact s.rch k z
  ·rw[Y0.mp z];exact .on (s.rch u s.u_in) ho hok
 ·rcases(hw w).mp h with z|z
  ·exact X8 _<|s.sub w z
  ·rw[z];exact Y2 _ (by simp)
 ·rcases Y9.mp hk with z|z
  ·exact X8 _<|s.clo k z (λq=>hnk<|(hw k).mpr (.inl q)) Wr p hp hp'
  ·exact VR ((hw k).mpr (.inr<|Y0.mp z)) hnk
 ·rcases Y9.mp hp with z|z
  ·exact X8 _<|s.dn p z hp'
  ·exact Y2 _ z
def SeaAt.fin(s:SeaAt nb ok x u (nb u) ks ws):Sea nb ok x ks ws :=
 ⟨s.nd,s.x_in,s.rch,s.sub,λk hk hn o ho hok=>by
  by_cases e:k=u
  ·subst e;exact s.dn o ho hok
  ·exact s.clo k hk hn e o ho hok⟩
def Sea.all(s:Sea nb ok x ks []):y∈ks↔Rch (λa b=>b∈nb a) (λa=>ok a=Wd) x y :=
 ⟨s.rch y,λh=>h.closed (S:=λz=>z∈ks) s.x_in λa b ha hb hok=>s.clo a ha (by simp) b hb hok⟩
end
def Lv(n:Nat)(ρ:ZE)(k:Nat)(z:Nat):Prop:=z<n/\ρ z<k
structure Fst(A:ZD)(n:Nat)(ρ:ZE)(k x r:Nat):Prop where
 rch:Rch A (Lv n ρ k) x r
 lv:Lv n ρ k r
 min:∀y,Rch A (Lv n ρ k) x y->ρ r<=ρ y
inductive Liv(par:Zx):Nat->Nat->Prop where
 |root {s:Nat}:par s=Wc->Liv par s s
 |up {s m e r:Nat}:par s=Wb (m,e)->Liv par e r->Liv par s r
section
variable {A:ZD}{n:Nat}{ρ:ZE}{k:Nat}{par par':Zx}
def Liv.det(h:Liv par s r)(h':Liv par s r'):r=r':=by
 induction h with
 |root e=>cases h' with
  |root=>rfl
  |up e'=>rw[e]at e';cases e'
 |up e _ ih=>cases h' with
  |root e'=>rw[e]at e';cases e'
  |up e' q=>rw[e]at e';cases e';exact ih q
def Liv.end_(h:Liv par s r):par r=Wc:=by
 induction h with
 |root e=>exact e
 |up _ _ ih=>exact ih
def Liv.more(hp:∀z,par z≠Wc->par' z=par z)(h:Liv par s r)(h':Liv par' r r'):Liv par' s r':=by
 induction h with
 |root=>exact h'
 |up e _ ih=>exact .up ((hp _ (by rw[e];exact nofun)).trans e)<|ih h'
def Lv.up(h:Lv n ρ k z):Lv n ρ (k+1) z:=⟨h.1,by have:=h.2;exact fD this<|V3 _⟩
def Rch.up(h:Rch A (Lv n ρ k) x y):Rch A (Lv n ρ<|k+1) x y:=h.mono λa a h1 h2=>⟨h1,h2.up⟩
def Fst.same(inj:∀x y,x<n->y<n->ρ x=ρ y->x=y)(h:Fst A n ρ k x r)(h':Fst A n ρ k x r'):r=r' :=
 inj r r' h.lv.1 h'.lv.1 (T9 (h.min _ h'.rch)<|h'.min _ h.rch)
def Fst.of_rch(sy:∀a b,A a b->A b a)(hx:Lv n ρ k x)(h:Rch A (Lv n ρ k) x y)(f:Fst A n ρ k x r):Fst A n ρ k y r :=
 ⟨(h.symm sy hx).trans f.rch,f.lv,λz hz=>f.min z<|h.trans hz⟩
def Rch.new(sy:∀a b,A a b->A b a)(inj:∀x y,x<n->y<n->ρ x=ρ y->x=y)(hc:c<n)(hρ:ρ c=k)(hx:Lv n ρ k x)(h:Rch A (Lv n ρ<|k+1) x y):
  Rch A (Lv n ρ k) x y\/∃o,A c o/\Lv n ρ k o/\Rch A (Lv n ρ k) x o/\(y=c\/∃o',A c o'/\Lv n ρ k o'/\Rch A (Lv n ρ k) o' y):=by
 have two:∀{z:Nat},Lv n ρ (k+1) z->Lv n ρ k z\/z=c:=λ{z} h=>by
  by_cases e:ρ z<k
  ·exact .inl ⟨h.1,e⟩
  ·exact .inr<|inj z c h.1 hc (by have:=h.2;exact T9 (aO (O9 this)<|bK hρ.symm)<|aO (bK hρ)<|W5.mp e)
 induction h with
 |here=>exact .inl .here
 |@on y z h1 h2 h3 ih =>
  rcases ih with q|zr1_
  ·rcases two h3 with w|rfl
   ·exact .inl<|.on q h2 w
   ·exact .inr<|k8 y (sy _ _ h2) (q.ok_ hx) q<|.inl rfl
  ·obtain⟨o,o1,o2,o3,q⟩:=zr1_;rcases two h3 with w|rfl
   ·rcases q with rfl|zr2_
    ·exact .inr<|k8 o o1 o2 o3<|.inr<|eD z h2 w .here
    ·obtain⟨o',p1,p2,p3⟩:=zr2_;exact .inr<|k8 o o1 o2 o3<|.inr<|eD o' p1 p2<|.on p3 h2 w
   ·exact .inr<|k8 o o1 o2 o3<|.inl rfl
def Rch.newc(sy:∀a b,A a b->A b a)(inj:∀x y,x<n->y<n->ρ x=ρ y->x=y)(hc:c<n)(hρ:ρ c=k)(h:Rch A (Lv n ρ<|k+1) c y):y=c\/∃o',A c o'/\Lv n ρ k o'/\Rch A (Lv n ρ k) o' y:=by
 have two:∀{z:Nat},Lv n ρ (k+1) z->Lv n ρ k z\/z=c:=λ{z} h=>by
  by_cases e:ρ z<k
  ·exact .inl ⟨h.1,e⟩
  ·exact .inr<|inj z c h.1 hc (by have:=h.2;exact T9 (aO (O9 this)<|bK hρ.symm)<|aO (bK hρ)<|W5.mp e)
 induction h with
 |here=>exact .inl rfl
 |@on y z h1 h2 h3 ih =>
  rcases two h3 with w|rfl
  ·rcases ih with rfl|zr3_
   ·exact .inr<|eD z h2 w .here
   ·obtain⟨o',p1,p2,p3⟩:=zr3_;exact .inr<|eD o' p1 p2<|.on p3 h2 w
  ·exact .inl rfl
structure UF(A:ZD)(n:Nat)(ρ:ZE)(k:Nat)(Wi:Zs)(par:Zx):Prop where
 dom:∀x,Wi x≠Wc->Lv n ρ k x
 has:∀x,Lv n ρ k x->∃s,Wi x=Wb s
 hm:∀x s,Wi x=Wb s->Fst A n ρ (ρ x+1) x s
 own:∀x s,Wi x=Wb s->Wi s=Wb s
 pr:∀s m e,par s=Wb (m,e)->Wi s=Wb s/\Wi e=Wb e/\Lv n ρ k m/\ρ s<ρ m/\Fst A n ρ (ρ m) s s/\Fst A n ρ (ρ m+1) s e/\e≠s
 liv:∀x s,Wi x=Wb s->∃r,Liv par s r/\Fst A n ρ k x r
def UF.start:UF A n ρ 0 (λx=>Wc) (λx=>Wc):=⟨λx h=>VR rfl h,λx h=>VR h.2<|M6 _,λx x h=>(nomatch h),λx x h=>(nomatch h),λx x x h=>(nomatch h),λx x h=>(nomatch h)⟩
variable {Wi home':Zs}
def UF.root(u:UF A n ρ k Wi par)(hs:Wi s=Wb s)(h:Liv par s r):Wi r=Wb r:=by
 induction h with
 |root=>exact hs
 |up e _ ih=>exact ih (u.pr _ _ _ e).2.1
def UF.rk_pr(inj:∀x y,x<n->y<n->ρ x=ρ y->x=y)(u:UF A n ρ k Wi par)(h:par s=Wb (m,e)):ρ e<ρ s:=by obtain⟨h1,h2,h3,h4,h5,h6,h7⟩:=u.pr s m e h;have:=h6.min s .here;have ne:ρ e≠ρ s:=λz=>h7<|inj e s h6.lv.1 h5.lv.1 z;lia
def UF.alone(sy:∀a b,A a b->A b a)(inj:∀x y,x<n->y<n->ρ x=ρ y->x=y)(u:UF A n ρ k Wi par)(hc:c<n)(hρ:ρ c=k)(no:∀o,A c o->¬ Lv n ρ k o)(h1:home' c=Wb c)(h2:∀x,x≠c->home' x=Wi x):UF A n ρ (k+1) home' par:=by
 have ncl:¬ Lv n ρ k c:=λz=>by have:=z.2;exact W5.mpr (bK hρ.symm) this
 have nec:∀{x s:Nat},Wi x=Wb s->x≠c:=λ{x s} h z=>ncl<|u.dom c (by rw[<- z,h];exact nofun);have fc:Fst A n ρ (k+1) c c:=⟨.here,⟨hc,by exact dM (bK hρ)<|V3 _⟩,λy hy=>by
  rcases hy.newc sy inj hc hρ with rfl|zr4_
  ·exact bW _
  ·obtain⟨o,p1,p2,_⟩:=zr4_;exact VR p2<|no o p1⟩
 refine⟨λx hx=>?_,λx hx=>?_,λx s hx=>?_,λx s hx=>?_,λs m e h=>?_,λx s hx=>?_⟩
 ·by_cases e:x=c
  ·subst e;exact⟨hc,by exact dM (bK hρ)<|V3 _⟩
  ·rw[h2 x e]at hx;exact(u.dom x hx).up
 ·by_cases e:x=c
  ·subst e;exact⟨x,h1⟩
  ·rw[h2 x e];refine u.has x ⟨hx.1,?_⟩;have:ρ x≠k:=λz=>e<|inj x c hx.1 hc (by exact T9 (aO (bK z)<|bK hρ.symm)<|aO (bK hρ)<|bK z.symm);have:=hx.2;lia
 ·by_cases e:x=c
  ·subst e;rw[h1]at hx;cases hx;rw[hρ];exact fc
  ·rw[h2 x e]at hx;exact u.hm x s hx
 ·by_cases e:x=c
  ·subst e;rw[h1]at hx;cases hx;exact h1
  ·rw[h2 x e]at hx;have:=u.own x s hx;rw[h2 s (nec this)];exact this
 ·obtain⟨g1,g2,g3,g4,g5,g6,g7⟩:=u.pr s m e h;exact⟨(by rw[h2 s (nec g1)];exact g1),(by rw[h2 e (nec g2)];exact g2),g3.up,g4,g5,g6,g7⟩
 ·by_cases e:x=c
  ·subst e;rw[h1]at hx;cases hx;refine(aD x (.root ?_) fc);cases q:par x with
   |none=>rfl
   |some p=>exact VR rfl<|nec (u.pr x p.1 p.2 q).1
  ·rw[h2 x e]at hx;obtain⟨r,l,f⟩:=u.liv x s hx;have lx:=u.dom x (by rw[hx];exact nofun);refine⟨r,l,f.rch.up,f.lv.up,λy hy=>?_⟩;rcases hy.new sy inj hc hρ lx with q|zr5_
   ·exact f.min y q
   ·obtain⟨o,p1,p2,_⟩:=zr5_;exact VR p2<|no o p1
def UF.meet(sy:∀a b,A a b->A b a)(inj:∀x y,x<n->y<n->ρ x=ρ y->x=y)(u:UF A n ρ k Wi par){met:ZT}(hc:c<n)(hρ:ρ c=k)(m1:∀o s,A c o->Wi o=Wb s->∃r,r∈met/\Liv par s r)(m2:∀r,r∈met->∃o s,A c o/\Wi o=Wb s/\Liv par s r)(he:elder∈met)(hmin:∀r,r∈met->ρ elder<=ρ r)(h1:home' c=Wb elder)(h2:∀x,x≠c->home' x=Wi x)(p1:∀s,s∈met->s≠elder->par' s=Wb (c,elder))(p2:∀s,¬ (s∈met/\s≠elder)->par' s=par s):UF A n ρ (k+1) home' par':=by
 have ncl:¬ Lv n ρ k c:=λz=>by have:=z.2;exact W5.mpr (bK hρ.symm) this
 have nec:∀{x s:Nat},Wi x=Wb s->x≠c:=λ{x s} h z=>ncl<|u.dom c (by rw[<- z,h];exact nofun);have L0:∀o,A c o->Lv n ρ k o->∃r,r∈met/\Fst A n ρ k o r:=λo ho lo=>by obtain⟨s,hs⟩:=u.has o lo;obtain⟨r,g1,g2⟩:=m1 o s ho hs;obtain⟨r',g3,g4⟩:=u.liv o s hs;have:=g2.det g3;subst this;exact(aD r g1 g4)
 have L0':∀r,r∈met->∃o,A c o/\Lv n ρ k o/\Fst A n ρ k o r:=λr hr=>by obtain⟨o,s,g1,g2,g3⟩:=m2 r hr;obtain⟨r',g4,g5⟩:=u.liv o s g2;have:=g3.det g4;subst this;exact(eD o g1 (u.dom o (by rw[g2];exact nofun)) g5)
 have lc:Lv n ρ (k+1) c:=⟨hc,by exact dM (bK hρ)<|V3 _⟩;have L1:Fst A n ρ (k+1) c elder:=by
  obtain⟨o,g1,g2,g3⟩:=L0' elder he;refine⟨Rch.trans (.on .here g1 g2.up) g3.rch.up,g3.lv.up,λy hy=>?_⟩;rcases hy.newc sy inj hc hρ with rfl|zr6_
  ·have:=g3.lv.2;exact cj<|cW this<|bK hρ.symm
  ·obtain⟨o',q1,q2,q3⟩:=zr6_;obtain⟨r',r1,r2⟩:=L0 o' q1 q2;exact aO (hmin r' r1)<|r2.min y q3
 have L2:∀x r,Lv n ρ k x->Fst A n ρ k x r->r∈met->Fst A n ρ (k+1) x elder:=λx r lx f hr=>by obtain⟨o,g1,g2,g3⟩:=L0' r hr;have xc:Rch A (Lv n ρ<|k+1) x c:=.on ((f.rch.trans<|g3.rch.symm sy g2).up) (sy _ _ g1) lc;exact⟨xc.trans L1.rch,L1.lv,λy hy=>L1.min y<|(xc.symm sy lx.up).trans hy⟩
 have L3:∀x r,Lv n ρ k x->Fst A n ρ k x r->r∉met->Fst A n ρ (k+1) x r:=λx r lx f hr=>by
  refine⟨f.rch.up,f.lv.up,λy hy=>?_⟩;rcases hy.new sy inj hc hρ lx with q|zr7_
  ·exact f.min y q
  ·obtain⟨o,q1,q2,q3,_⟩:=zr7_;obtain⟨r',r1,r2⟩:=L0 o q1 q2;have:=(f.of_rch sy lx q3).same inj r2;exact VR (this▸r1) hr
 have pn:∀r,r∈met->par r=Wc:=λr hr=>by obtain⟨o,s,g1,g2,g3⟩:=m2 r hr;exact g3.end_
 have hr:∀r,r∈met->Wi r=Wb r:=λr hr=>by obtain⟨o,s,g1,g2,g3⟩:=m2 r hr;exact u.root (u.own o s g2) g3
 have keep:∀z,par z≠Wc->par' z=par z:=λz hz=>p2 z λq=>hz<|pn z q.1;have le:Liv par' elder elder:=.root<|(p2 elder λq=>q.2 rfl).trans (pn elder he);refine⟨λx hx=>?_,λx hx=>?_,λx s hx=>?_,λx s hx=>?_,λs m e h=>?_,λx s hx=>?_⟩
 ·by_cases e:x=c
  ·subst e;exact lc
  ·rw[h2 x e]at hx;exact(u.dom x hx).up
 ·by_cases e:x=c
  ·subst e;exact⟨elder,h1⟩
  ·rw[h2 x e];refine u.has x ⟨hx.1,?_⟩;have:ρ x≠k:=λz=>e<|inj x c hx.1 hc (by exact T9 (aO (bK z)<|bK hρ.symm)<|aO (bK hρ)<|bK z.symm);have:=hx.2;omega
 ·by_cases e:x=c
  ·subst e;rw[h1]at hx;cases hx;rw[hρ];exact L1
  ·rw[h2 x e]at hx;exact u.hm x s hx
 ·by_cases e:x=c
  ·subst e;rw[h1]at hx;cases hx;rw[h2 _ (nec<|hr _ he)];exact hr _ he
  ·rw[h2 x e]at hx;have:=u.own x s hx;rw[h2 s (nec this)];exact this
 ·by_cases q:s∈met/\s≠elder
  ·rw[p1 s q.1 q.2]at h;cases h;have hs:=hr s q.1;obtain⟨o,g1,g2,g3⟩:=L0' s q.1;have fs:=g3.of_rch sy g2 g3.rch;refine⟨(by rw[h2 s (nec hs)];exact hs),(by rw[h2 _ (nec<|hr _ he)];exact hr _ he),lc,?_,(by rw[hρ];exact fs),(by rw[hρ];exact L2 s s g3.lv fs q.1),(λz=>q.2 z.symm)⟩;have:=g3.lv.2;exact cW this<|bK hρ.symm
  ·rw[p2 s q]at h;obtain⟨g1,g2,g3,g4,g5,g6,g7⟩:=u.pr s m e h;exact⟨(by rw[h2 s (nec g1)];exact g1),(by rw[h2 e (nec g2)];exact g2),g3.up,g4,g5,g6,g7⟩
 ·by_cases e:x=c
  ·subst e;rw[h1]at hx;cases hx;exact(aD _ le L1)
  ·rw[h2 x e]at hx;obtain⟨r,l,f⟩:=u.liv x s hx;have lx:=u.dom x (by rw[hx];exact nofun);by_cases q:r∈met
   ·refine(aD elder (l.more keep ?_)<|L2 x r lx f q);by_cases qe:r=elder
    ·rw[qe];exact le
    ·exact .up (p1 r q qe) le
   ·exact(aD r (l.more keep<|.root<|(p2 r λz=>q z.1).trans l.end_)<|L3 x r lx f q)
end
end Gr

namespace Srt
def mid(h:l<r)(h3:r-l<=f+1):l<=(l+r)/2/\(l+r)/2<r/\(l+r)/2-l<=f/\r-((l+r)/2+1)<=f:=by
 have a:l<=(l+r)/2:=(Nat.le_div_iff_mul_le (by decide)).mpr (by rw[Nat.mul_two];exact E5 (cj h) l);have b:(l+r)/2<r:=(Nat.div_lt_iff_lt_mul (by decide)).mpr (by rw[Nat.mul_two];exact Nat.add_lt_add_right h r);have c:r-(l+1)<=f:=by rw[Nat.sub_add_eq];exact Nat.sub_le_of_le_add h3
 refine⟨a,b,aO (Nat.sub_le_sub_right (Nat.le_sub_one_of_lt b) l) ?_,aO (Nat.sub_le_sub_left (Nat.succ_le_succ a) r) c⟩;rw[Nat.sub_sub,Nat.add_comm];exact c
open PySem PySem.W PyProof.Rows
def Ok{α:Type}(c:Zw)(n:Nat):KasT α->(α->Prop)->Prop
 |.ret a,Q=>Q a
 |.ask i j k,Q=>i<n/\j<n/\Ok c n (k<|c i j) Q
def Ok.bind{α β:Type}{c:Zw}{f:α->KasT β}{Q:β->Prop}{t:KasT α}:Ok c n t (λa=>Ok c n (f a) Q)->Ok c n (t.bind f) Q:=by
 induction t with
 |ret a=>exact id
 |ask i j k ih=>exact λh=>⟨h.1,h.2.1,ih _ h.2.2⟩
def Ok.mono{α:Type}{c:Zw}{Q Q':α->Prop}(h:∀a,Q a->Q' a){t:KasT α}:Ok c n t Q->Ok c n t Q':=by
 induction t with
 |ret a=>exact h a
 |ask i j k ih=>exact λh=>⟨h.1,h.2.1,ih _ h.2.2⟩
def Ok.wp{α:Type}{c:Zw}{Q:α->Prop}{cmp:Nat->Nat->(Bool->Ww->Prop)->Ww->Prop}{G:α->Ww->Prop}(hc:∀i j C,i<n->j<n->C (c i j) s->cmp i j C s)(hG:∀a,Q a->G a s){t:KasT α}:Ok c n t Q->t.kasWp cmp G s:=by
 induction t with
 |ret a=>exact hG a
 |ask i j k ih=>exact λh=>hc i j _ h.1 h.2.1<|ih _ h.2.2
structure Lin(c:Zw)(n:Nat):Prop where
 irr:∀i,i<n->c i i=We
 tr:∀i j k,i<n->j<n->k<n->c i j=Wd->c j k=Wd->c i k=Wd
 tot:∀i j,i<n->j<n->i≠j->c i j=We->c j i=Wd
structure Arr(n:Nat)(p:Zr):Prop where
 sz:p.size=n
 pm:p.toList.Perm (Z9 n)
abbrev at'(p:Zr)(i:Nat):Nat:=p.getD i 0
def Arr.get(a:Arr n p)(hi:i<n):p[i]?=Wb (at' p i):=by
 have h:i<p.size:=by rw[a.sz];exact hi
 simp[at',Array.getD,h]
def Arr.lt(a:Arr n p)(hi:i<n):at' p i<n:=by
 have h:=a.get hi;have hm:at' p i∈p.toList:=by
  have:p.toList[i]?=Wb (at' p i):=by rw[R5];exact h
  exact X6 this
 have:=a.pm.mem_iff.mp hm;exact R4.mp this
def Arr.inj(a:Arr n p)(hi:i<n)(hj:j<n)(e:at' p i=at' p j):i=j:=by
 have nd:p.toList.Nodup:=(a.pm.nodup_iff).mpr L8;have h1:p.toList[i]?=Wb (at' p i):=by rw[R5];exact a.get hi
 have h2:p.toList[j]?=Wb (at' p j):=by rw[R5];exact a.get hj
 obtain⟨l1,e1⟩:=Z6.mp h1;obtain⟨l2,e2⟩:=Z6.mp h2;exact(List.getElem_inj nd).mp (e1.trans<|e.trans e2.symm)
def Up(c:Zw)(p:Zr)(k:Nat):Prop:=∀i j,i<j->j<k->c (at' p i) (at' p j)=Wd
def Dn(c:Zw)(p:Zr)(k:Nat):Prop:=∀i j,i<j->j<k->c (at' p j) (at' p i)=Wd
section
variable {c:Zw}{n:Nat}(L:Lin c n)
include L
theorem Up.more(a:Arr n p)(u:Up c p m)(h1:1<=m)(hm:m<n)(h:c (at' p<|m-1) (at' p m)=Wd):Up c p (m+1):=by
 intro i j hij hj;by_cases e:j=m
 ·subst e;by_cases e2:i=j-1
  ·subst e2;exact h
  ·exact L.tr _ _ _ (a.lt (by exact fD hij hm)) (a.lt (by exact dM (Q8 _ _) hm)) (a.lt hm) (u i (j-1) (by lia) (by lia)) h
 ·exact u i j hij (by lia)
theorem Dn.more(a:Arr n p)(u:Dn c p m)(h1:1<=m)(hm:m<n)(h:c (at' p m) (at' p<|m-1)=Wd):Dn c p (m+1):=by
 intro i j hij hj;by_cases e:j=m
 ·subst e;by_cases e2:i=j-1
  ·subst e2;exact h
  ·exact L.tr _ _ _ (a.lt hm) (a.lt (by exact dM (Q8 _ _) hm)) (a.lt (by exact fD hij hm)) h<|u i (j-1) (by lia) (by lia)
 ·exact u i j hij (by lia)
theorem B7(a:Arr n p):∀(f m:Nat),1<=m->m+f=n->Up c p m->Ok c n (kas_asc p f m) λm'=>m<=m'/\m'<=n/\Up c p m'/\(m'<n->c (at' p m') (at' p<|m'-1)=Wd):=by
 intro f;induction f with
 |zero=>exact λm h1 hf u=>⟨bW _,bK hf,u,λh=>VR h (by rw[show m=n from hf];exact Q0 _)⟩
 |succ f ih =>
  intro m h1 hf u;have hm:m<n:=by lia
  refine⟨a.lt hm,a.lt (by exact dM (Q8 _ _) hm),?_⟩;show Ok c n (if (c (at' p m)<|at' p<|m-1)=Wd then KasT.ret m else kas_asc p f (m+1)) _;cases e:c (at' p m) (at' p<|m-1) with
  |true =>rw[VP rfl];exact⟨bW _,by exact cj hm,u,λx=>e⟩
  |false =>rw[VQ Z3];have h2:c (at' p<|m-1) (at' p m)=Wd:=L.tot _ _ (a.lt hm) (a.lt (by exact dM (Q8 _ _) hm)) (λq=>by have:=a.inj hm (by exact dM (Q8 _ _) hm) q;lia) e;exact Ok.mono (λm' ⟨q1,q2,q3,q4⟩=>(qr (by exact cj q1) q2 q3 q4))<|ih (m+1) (by exact Nat.le_add_left _ _) (by lia)<|Up.more L a u h1 hm h2
theorem ok_desc(a:Arr n p):∀(f m:Nat),1<=m->m+f=n->Dn c p m->Ok c n (kas_desc f p m 0) λr=>r.1=p/\r.2.2=0/\m<=r.2.1/\r.2.1<=n/\Dn c p r.2.1:=by
 intro f;induction f with
 |zero=>exact λm h1 hf u=>⟨rfl,rfl,bW _,bK hf,u⟩
 |succ f ih =>
  intro m h1 hf u;have hm:m<n:=by omega
  refine⟨a.lt hm,a.lt (by exact dM (Q8 _ _) hm),?_⟩;show Ok c n (if (c (at' p m)<|at' p<|m-1)=Wd then (if 0 > 0 then kas_desc f (kas_rev p (m-(0+1)) m) (m+1) 0 else kas_desc f p (m+1) 0)
   else .ask (at' p<|m-1) (at' p m) λd=>if d=Wd then .ret (p,m,0) else kas_desc f p (m+1) (0+1)) _
  cases e:c (at' p m) (at' p<|m-1) with
  |true =>rw[VP rfl,VQ (by omega)];exact Ok.mono (λr ⟨q0,q1,q2,q3,q4⟩=>⟨q0,q1,(by exact cj q2),q3,q4⟩)<|ih (m+1) (by exact Nat.le_add_left _ _) (by omega)<|Dn.more L a u h1 hm e
  |false =>rw[VQ Z3];have h2:c (at' p<|m-1) (at' p m)=Wd:=L.tot _ _ (a.lt hm) (a.lt (by exact dM (Q8 _ _) hm)) (λq=>by have:=a.inj hm (by exact dM (Q8 _ _) hm) q;omega) e;refine⟨a.lt (by exact dM (Q8 _ _) hm),a.lt hm,?_⟩;show Ok c n (if (c (at' p<|m-1)<|at' p m)=Wd then KasT.ret (p,m,0) else _) _;rw[h2,VP rfl];exact⟨rfl,rfl,bW _,by show m<=n;exact cj hm,u⟩
omit L in
theorem Arr.rev(a:Arr n p)(i j:Nat):Arr n (kas_rev p i j) :=
 ⟨(mirror_size _ _ _ _).trans a.sz,((mirror_perm p i j _).toList).trans a.pm⟩
omit L in
theorem B8(a:Arr n p)(hm:m<=n)(hk:k<m):at' (kas_rev p 0 m) k=at' p (m-1-k):=by have h:=getElem?_mirror_all (xs:=p) (i:=0) (j:=m) (by rw[a.sz];exact hm) k;rw[VP ⟨U2 _,hk⟩]at h;have h1:=(a.rev 0 m).get (i:=k) (by exact cW hk hm);have h2:=a.get (i:=0+m-1-k) (by omega);have h3:Wb (at' (kas_rev p 0 m) k)=Wb (at' p<|0+m-1-k):=h1.symm.trans<|h.trans h2;rw[Nat.zero_add]at h3;exact Z4 h3
omit L in
theorem Dn.up(a:Arr n p)(hm:m<=n)(u:Dn c p m):Up c (kas_rev p 0 m) m:=by intro i j hij hj;rw[B8 a hm (by exact fD hij hj),B8 a hm hj];exact u _ _ (by omega) (by omega)
theorem B9(a:Arr n p)(h1:1<=m)(hm:m<=n)(u:Dn c p m):Ok c n (kas_tail3 m n p) λr=>1<=r.1/\r.1<=n/\Arr n r.2/\Up c r.2 r.1:=by refine Ok.bind<|Ok.mono (λm' ⟨q1,q2,q3,_⟩=>?_)<|B7 L (a.rev 0 m) (n-m) m h1 (by lia)<|u.up a hm;exact⟨by show 1<=m';exact aO h1 q1,q2,a.rev 0 m,q3⟩
theorem Ba(a:Arr n p)(hn:1<=n):Ok c n (kas_count n p) λr=>1<=r.1/\r.1<=n/\Arr n r.2/\Up c r.2 r.1:=by
 refine Ok.bind<|Ok.mono (λm ⟨q1,q2,q3,q4⟩=>?_) (B7 L a (n-1) 1 (bW _) (by omega) λi j hij hj=>VR hij (by omega));by_cases e:m=n
 ·rw[VP (by simp[e])];exact⟨q1,q2,a,q3⟩
 ·rw[VQ (by simp[e])];by_cases h:m > 1
  ·rw[VP h];have hc:c (at' p 0) (at' p<|m-1)=Wd:=q3 0 (m-1) (by omega) (by omega);refine⟨a.lt (by omega),a.lt (by omega),?_⟩;show Ok c n (if (c (at' p 0)<|at' p<|m-1)=Wd then KasT.ret (m,p) else _) _;rw[hc,VP rfl];exact⟨q1,q2,a,q3⟩
  ·rw[VQ h];have e1:m=1:=by omega
   subst e1;have hn2:1<n:=by omega
   have h0:=q4 hn2;have d2:Dn c p 2:=λi j hij hj=>by
    have ei:i=0:=by omega
    have ej:j=1:=by omega
    subst ei ej;exact h0
   refine Ok.bind<|Ok.mono (λr ⟨r0,r1,r2,r3,r4⟩=>?_)<|ok_desc L a (n-(1+1)) (1+1) (by exact cj<|V3 _) (by omega) d2;rw[r1,VQ (by omega),r0];exact B9 L a (by exact cj r2) r3 r4
theorem Bb(a:Arr n p)(hk:k<n)(u:Up c p k):∀(f l r:Nat),l<=r->r<=k->r-l<=f->(∀i,i<l->c (at' p i) (at' p k)=Wd)->(∀i,r<=i->i<k->c (at' p k) (at' p i)=Wd) ->
  Ok c n (kas_place p k f l r) λm=>m<=k/\(∀i,i<m->c (at' p i) (at' p k)=Wd)/\∀i,m<=i->i<k->c (at' p k) (at' p i)=Wd:=by
 intro f;induction f with
 |zero=>exact λl r h1 h2 h3 hl hr=>⟨aO h1 h2,hl,λi q1 q2=>hr i (aO (Nat.le_of_sub_eq_zero<|Nat.le_zero.mp h3) q1) q2⟩
 |succ f ih =>
  intro l r h1 h2 h3 hl hr;unfold kas_place;by_cases h:l ≥ r
  ·rw[VP h];exact⟨by show l<=k;exact aO h1 h2,hl,λi q1 q2=>hr i (by exact aO h q1) q2⟩
  ·rw[VQ h];obtain⟨m1,m2,m3,m4⟩:=mid (Nat.not_le.mp h) h3;have hm:(l+r)/2<k:=cW m2 h2;refine⟨a.lt hk,a.lt (by exact fD hm hk),?_⟩;show Ok c n (if (c (at' p k)<|at' p<|(l+r)/2)=Wd then kas_place p k f l ((l+r)/2) else kas_place p k f ((l+r)/2+1) r) _;cases e:c (at' p k) (at' p<|(l+r)/2) with
   |true =>
    rw[VP rfl];refine ih l ((l+r)/2) m1 (by exact cj hm) m3 hl λi q1 q2=>?_;by_cases ei:i=(l+r)/2
    ·subst ei;exact e
    ·exact L.tr _ _ _ (a.lt hk) (a.lt (by exact fD hm hk)) (a.lt (by exact fD q2 hk)) e<|u _ _ (G2 q1<|V8 ei) q2
   |false =>
    rw[VQ Z3];have h4:c (at' p<|(l+r)/2) (at' p k)=Wd:=L.tot _ _ (a.lt hk) (a.lt (by exact fD hm hk)) (λq=>by have:=a.inj hk (by exact fD hm hk) q;exact VR hm<|this▸Q0 _) e;refine ih ((l+r)/2+1) r m2 h2 m4 (λi q=>?_) hr;by_cases ei:i=(l+r)/2
    ·subst ei;exact h4
    ·exact L.tr _ _ _ (a.lt<|dM (O9 q)<|fD hm hk) (a.lt (by exact fD hm hk)) (a.lt hk) (u i _ (G2 (O9 q) ei) (by exact hm)) h4
omit L in
theorem Arr.bub(a:Arr n p)(k d:Nat):Arr n (bubble p k d):=⟨(bubble_size _ _ _).trans a.sz,((bubble_perm p k d).toList).trans a.pm⟩
omit L in
theorem Bc(a:Arr n p)(hk:k<n)(hl:l<=k)(hi:i<n):at' (bubble p k<|k-l) i=if i=l then at' p k else if l<i/\i<=k then at' p (i-1) else at' p i:=by
 have h:=getElem?_bubble (xs:=p) (src:=k) (by rw[a.sz];exact hk) (k-l) (by exact aO (Q8 _ _)<|bW _) i;have e:k-(k-l)=l:=by lia
 rw[e]at h;have h1:=(a.bub k<|k-l).get hi;rw[h1]at h;by_cases q:i=l
 ·rw[VP q]at h ⊢;rw[a.get hk]at h;exact Z4 h
 ·rw[VQ q]at h ⊢;by_cases q2:l<i/\i<=k
  ·rw[VP q2]at h ⊢;rw[a.get (by exact dM (Q8 _ _) hi)]at h;exact Z4 h
  ·rw[VQ q2]at h ⊢;rw[a.get hi]at h;exact Z4 h
theorem ok_bin:∀(f k:Nat) {p:Zr},Arr n p->k+f=n->Up c p k->Ok c n (kas_bin f p k) λp'=>Arr n p'/\Up c p' n:=by
 intro f;induction f with
 |zero=>exact λk p a hf u=>⟨a,(show k=n from hf)▸u⟩
 |succ f ih =>
  intro k p a hf u;have hk:k<n:=hf▸Nat.lt_add_of_pos_right (Nat.succ_pos f);refine Ok.bind<|Ok.mono (λl ⟨q1,q2,q3⟩=>?_) (Bb L a hk u k 0 k (U2 _) (bW _) (by exact aO (Q8 _ _)<|bW _) (λi h=>VR h (by exact W5.mpr<|U2 _)) λi h1 h2=>VR h2 (by exact W5.mpr h1));refine ih (k+1) (a.bub k<|k-l) ((Nat.succ_add k f).trans hf) λi j hij hj=>?_;have hjn:j<n:=cW hj hk;have hjk:j<=k:=O9 hj;rw[Bc a hk q1 (fD hij hjn),Bc a hk q1 hjn];by_cases ei:i=l
  ·rw[VP ei,VQ λz=>VR hij (by rw[ei,z];exact Q0 _),VP ⟨by exact dM (bK ei.symm) hij,hjk⟩];exact q3 _ (Nat.le_sub_one_of_lt<|ei▸hij)<|cW (Nat.sub_one_lt_of_lt hij) hjk
  ·rw[VQ ei];by_cases ej:j=l
   ·rw[VP ej,VQ λz=>VR z.1<|W5.mpr<|cj<|ej▸hij];exact q2 i (by exact cW hij<|bK ej)
   ·rw[VQ ej];by_cases h1:l<i/\i<=k
    ·rw[VP h1,VP ⟨by exact fD h1.1 hij,hjk⟩];exact u _ _ (Nat.sub_lt_sub_right (Nat.succ_le_of_lt<|dM (U2 _) h1.1) hij)<|cW (Nat.sub_one_lt_of_lt hij) hjk
    ·rw[VQ h1];by_cases h2:l<j/\j<=k
     ·rw[VP h2];exact u _ _ (cW (G2 (W5.mp λz=>h1 ⟨z,aO (cj hij) hjk⟩) ei)<|Nat.le_sub_one_of_lt h2.1)<|cW (Nat.sub_one_lt_of_lt hij) hjk
     ·rw[VQ h2];exact u _ _ hij<|cW (G2 (W5.mp λz=>h2 ⟨z,hjk⟩) ej) q1
theorem yc(hn:1<=n):Ok c n (kas_sort n) λp=>Arr n p/\Up c p n:=by
 have a:Arr n (U4<|Z9 n):=⟨by simp,by simp⟩;refine Ok.bind<|Ok.mono (λr ⟨q1,q2,q3,q4⟩=>?_)<|Ba L a hn;by_cases h:r.1<n
 ·rw[VP h,Nat.max_eq_left q1];exact ok_bin L (n-r.1) r.1 q3 (by lia) q4
 ·rw[VQ h];have e:r.1=n:=by exact T9 q2<|W5.mp h
  rw[e]at q4;exact⟨q3,q4⟩
end
end Srt

namespace L2
open PySem PySem.Spec PyProof.Rows
def wC{env:Env}:∀(names:List (Str×N7)) (cs:Zt),(∀y∈names,y.2=.free->∃c,env.cells.lookup y.1=Wb c) ->
  ∃cl,(forIn names cs λ(x:Str×N7) (r:Zt)=>(match x with
   |(name,kind)=>if (kind==J6)=Wd then do let a <- cellOf env name;pure (ForInStep.yield ((name,a) ::r)) else pure (ForInStep.yield r):Sem (ForInStep<|List<|Str×Wy)))=pure cl /\
   (∀p∈cl,p∈cs\/env.cells.lookup p.1=Wb p.2)/\(∀p∈cs,p∈cl)/\∀y∈names,y.2=.free->∃c,(y.1,c)∈cl:=by
 intro names;induction names with
 |nil=>exact λcs b=>(k8 cs rfl (λp h=>.inl h) (λp h=>h) λy h=>nomatch h)
 |cons x r ih =>
  intro cs h;cases x with|mk n k=>?_;by_cases hk:k=.free
  ·obtain⟨c,hc⟩:=h (n,k) Y5 hk;obtain⟨cl,e,h1,h2,h3⟩:=ih ((n,c) ::cs) λy hy=>h y<|Y8 _ hy;refine(k8 cl ?_ (λp hp=>?_) (λp hp=>h2 p<|Y8 _ hp) λy hy hf=>?_)
   ·rw[List.forIn_cons];have e1:cellOf env n=pure c:=by unfold cellOf;rw[hc]
    simp only[hk,beq_self_eq_true,if_true,e1,pure_bind];exact e
   ·exact(h1 p hp).elim (λz=>(Y1.mp z).elim (λz=>.inr<|z▸hc) .inl) .inr
   ·exact(Y1.mp hy).elim (λz=>⟨c,z▸h2 _ Y5⟩) λz=>h3 y z hf
  ·obtain⟨cl,e,h1,h2,h3⟩:=ih cs λy hy=>h y<|Y8 _ hy;refine(k8 cl ?_ h1 h2 λy hy hf=>?_)
   ·have hb:(k==J6)=We:=by simpa using hk
    rw[List.forIn_cons];simp only[hb,Q9,if_false,pure_bind];exact e
   ·exact(Y1.mp hy).elim (λz=>VR ((congrArg Prod.snd z).symm.trans hf) hk) λz=>h3 y z hf
def qz{β:Type}{c:β}:∀{l:List (Str×β)},(x,c)∈l->∃d,l.lookup x=Wb d:=by
 intro l;induction l with
 |nil=>exact λh=>nomatch h
 |cons y r ih =>
  intro h;rw[J7];cases hb:x==y.1 with
  |true=>exact⟨y.2,rfl⟩
  |false=>exact(Y1.mp h).elim (λz=>VR hb (by rw[<- z];simp)) ih
def kG(h:∀y∈scope.names,y.2=.free->∃c,env.cells.lookup y.1=Wb c):
  ∃cl,closureFor scope env=pure cl/\(∀x c,cl.lookup x=Wb c->env.cells.lookup x=Wb c)/\∀y∈scope.names,y.2=.free->∃c,cl.lookup y.1=Wb c:=by
 obtain⟨cl,e,h1,_,h3⟩:=wC (env:=env) scope.names [] h;refine(eD cl ?_ (λx c hx=>?_) λy hy hf=>?_)
 ·unfold closureFor;show (forIn scope.names [] _ >>= λcs=>pure cs)=pure cl;refine Eq.trans (congrArg (λm=>m >>= λcs=>pure cs) e) ?_;rw[pure_bind]
 ·rcases h1 _ (R7 hx) with z|z
  ·exact nomatch z
  ·exact z
 ·obtain⟨c,hc⟩:=h3 y hy hf;exact qz hc
def kd{env:Env}:∀{names:List (Str×N7)} {x:Str},names.lookup x=Wb .free->∃k,
  (names.map λ(n,k)=>if (k==J6&&env.scope.kind==.function&&env.kindOf n==Wb .cell) then (n,N7.cell) else (n,k)).lookup x=Wb k/\(k=.cell\/k=.free):=by
 intro names x;induction names with
 |nil=>exact λh=>nomatch h
 |cons y r ih =>
  intro h;cases y with|mk n k=>?_;show ∃k',O8 x ((if (k==J6&&env.scope.kind==.function&&env.kindOf n==Wb .cell)=Wd then (n,N7.cell) else (n,k)) ::_)=Wb k'/\_;cases hx:x==n with
  |true =>
   simp only[J7,hx]at h;cases h;by_cases hc:(J6==J6&&env.scope.kind==.function&&env.kindOf n==Wb .cell)=Wd
   ·exact(aD .cell (by rw[VP hc];simp[J7,hx])<|.inl rfl)
   ·exact(aD .free (by rw[VQ hc];simp[J7,hx])<|.inr rfl)
  |false =>
   simp only[J7,hx]at h;obtain⟨k',e,hk⟩:=ih h;refine(aD k' ?_ hk);by_cases hc:(k==J6&&env.scope.kind==.function&&env.kindOf n==Wb .cell)=Wd
   ·rw[VP hc];simp only[J7,hx];exact e
   ·rw[VQ hc];simp only[J7,hx];exact e
section
variable {prog:W7}{w:WB}{A:WE}{R:Vr->Ww->Prop}{s:Ww}
def sJ{elt target iter:WC}{ifs:List WC}{scope:WY}{pos:Pos}{it Wo:Wx}{env:Env}(I:Nat->Ww->Prop)(turn:∀n s,I n s->Wz (WA prog w) A (WU it) (λr s₁=>match r with
   |none=>R (.ok .next) s₁
   |some v=>Wz (WA prog w) A (Vi target it v) (λa s'=>Wz (WA prog w) A (assign target env v) (λa s₂ =>
     Wz (WA prog w) A (forIn ifs Wd λc r=>if r=Wd then do let ok <- isTrue c env (WF c env);pure (ForInStep.yield ok) else pure (ForInStep.yield r)) (λok s₃ =>
      if ok=Wd then Wz (WA prog w) A (WF elt env) (λx s₄ =>
       Wz (WA prog w) A (call (.builtin "list.append") [Wo,x]) (λa s₅=>∃m,m<n/\I m s₅) (λa a=>False) s₄) (λa a=>False) s₃
      else ∃m,m<n/\I m s₃) (λa a=>False) s₂) (λa a=>False) s') (λa a=>False) s₁) (λa a=>False) s)(n:Nat)(h:I n s):D4 (WA prog w) A (.compLoop (.ListComp elt [⟨target,iter,ifs,0⟩] scope pos) 0 it Wo env) R s:=by
 refine codeAny_loop rfl I (λn s hI=>?_) n h;show Wz _ A ((compTurn (.ListComp elt [⟨target,iter,ifs,0⟩] scope pos) 0 it Wo env).onRaise (λx=>do noteFrame x env;theTreesLotGoes x)) _ _ s;refine wpAny_noted ?_;rw[compTurn_list];refine Z0<|WJ<|Z0 (T8 (turn n s hI) (λr s₁ h₁=>?_) λa a z=>z.elim);cases r with
 |none=>exact Z8 h₁
 |some v =>
  refine Z0 (T8 h₁ (λa s' h'=>?_) λa a z=>z.elim);refine Z0 (T8 h' (λa s₂ h₂=>Z0 (T8 h₂ (λok s₃ h₃=>?_) λa a z=>z.elim)) λa a z=>z.elim);cases ok with
  |false=>exact Z8 ⟨rfl,h₃⟩
  |true =>exact Z0<|Z0 (T8 h₃ (λx s₄ h₄=>Z0 (T8 h₄ (λa s₅ h₅=>Z8<|Z8 ⟨rfl,h₅⟩) λa a z=>z.elim)) λa a z=>z.elim)
end
def fh(X:Cx)(N':ZL)(scope:WY)(cl:Zt)(fp:Zy)(s3:Ww)(H3:Hp):Cx where
 prog:=X.prog
 w:=X.w
 K:=X.K
 mg:=X.mg
 base:=X.base
 A:=X.A
 N:=N'
 s₀:=s3
 H₀:=H3
 env:=compEnvC scope cl s3.heap.objs.size X.env
 outer:=X.stack
 stack:=X.stack
 ex:=fp
 calm:=X.calm
 fn:=λx=>We
 pn:=[]
 xe:=λx x=>False
def uy(X:Cx)(scope:WY):List (Str×Nat)->Prop
 |[]=>True
 |p ::r=>(X.N[p.2]?=Wb p.1/\scope.names.lookup p.1=Wb .free/\(X.env.kindOf p.1=Wb .cell\/X.env.kindOf p.1=Wb .free))/\uy X scope r
def uy.get:∀{cap:ZI},uy X scope cap->∀p∈cap,X.N[p.2]?=Wb p.1/\scope.names.lookup p.1=Wb .free/\(X.env.kindOf p.1=Wb .cell\/X.env.kindOf p.1=Wb .free):=by
 intro cap;induction cap with
 |nil=>exact λx p h=>nomatch h
 |cons y r ih=>exact λz p h=>(Y1.mp h).elim (λe=>e▸z.1) (ih z.2 p)
def o8(loc:ZL)(cap:ZI)(σ:St):St:=loc.map (λx=>Wc)++cap.map λp=>(σ[p.2]?).join
def st0_len:(o8 loc cap σ).length=(loc++cap.map (·.1)).length:=by unfold o8;simp
def st0_get{i:Nat}(h:(o8 loc cap σ)[i]?=Wb (Wb v)):∃p,p∈cap/\(loc++cap.map (·.1))[i]?=Wb p.1/\σ[p.2]?=Wb (Wb v):=by
 unfold o8 at h;by_cases hi:i<loc.length
 ·rw[W3 (by simpa using hi),Y3]at h;cases e:loc[i]? with
  |none=>rw[e]at h;cases h
  |some a=>rw[e]at h;cases h
 ·rw[V1 (by simpa using hi),Y3,Z5]at h;cases e:cap[i-loc.length]? with
  |none=>rw[e]at h;cases h
  |some p =>
   rw[e]at h;have h':(σ[p.2]?).join=Wb v:=Z4 h;refine(eD p (X6 e) ?_ ?_)
   ·rw[V1 (by exact W5.mp hi),Y3,e];rfl
   ·cases e2:σ[p.2]? with
    |none=>rw[e2]at h';cases h'
    |some o=>rw[e2]at h';exact congrArg Wb h'
def Wk:St->St->Prop
 |[],[]=>True
 |none ::r,_ ::t=>Wk r t
 |some v ::r,o ::t=>o=Wb v/\Wk r t
 |_,_=>False
def Wk.len:∀{a b:St},Wk a b->a.length=b.length:=by
 intro a;induction a with
 |nil=>intro b h;cases b with|nil=>rfl|cons=>exact O4 h
 |cons o r ih =>
  intro b h;cases b with
  |nil=>cases o<;>exact O4 h
  |cons o' t=>cases o with|none=>exact congrArg Nat.succ (ih (b:=t) h)|some v=>exact congrArg Nat.succ<|ih (b:=t) h.2
def Wk.get:∀{a b:St},Wk a b->∀(i:Nat) (v:V),a[i]?=Wb (Wb v)->b[i]?=Wb (Wb v):=by
 intro a;induction a with
 |nil=>exact λc i v e=>nomatch e
 |cons o r ih =>
  intro b h i v e;cases b with
  |nil=>cases o<;>exact O4 h
  |cons o' t =>
   cases i with
   |zero=>cases o with|none=>exact nomatch e|some x=>exact(congrArg Wb h.1).trans e
   |succ i=>cases o with|none=>exact ih (b:=t) h i v e|some x=>exact ih (b:=t) h.2 i v e
def freeOk(ns ms:List (Str×N7)):Bool:=ns.all λy=>match y.2 with
 |.free=>match ms.lookup y.1 with
  |some .cell=>Wd
  |some .free=>Wd
  |_=>We
 |_=>Wd
def oZ(h:freeOk ns ms=Wd):∀y∈ns,y.2=.free->ms.lookup y.1=Wb .cell\/ms.lookup y.1=Wb .free:=by
 intro y hy hf;have q:=List.all_eq_true.mp h y hy;rw[hf]at q;cases e:ms.lookup y.1 with
 |none=>rw[e]at q;cases q
 |some k =>rw[e]at q;cases k<;>first|exact .inl rfl|exact .inr rfl|cases q
structure CompScope(X:Cx)(loc:ZL)(cap:ZI)(scope:WY):Prop where
 kind:scope.kind=.function
 nocell:∀y∈scope.names,y.2≠.cell
 names:∀y∈scope.names,y.2=.local->scope.names.lookup y.1=Wb .local
 free0:freeOk scope.names X.env.scope.names=Wd
 cap:uy X scope cap
 xkind:X.env.scope.kind=.function
def CompScope.free{cap:ZI}(S:CompScope X loc cap scope):∀y∈scope.names,y.2=.free->X.env.kindOf y.1=Wb .cell\/X.env.kindOf y.1=Wb .free:=oZ S.free0
section
variable {X:Cx}{ZY:ZN}{σ:St}{H:Hp}{s:Ww}{loc:ZL}{cap:ZI}{scope:WY}{cl:Zt}{fp:Zy}
def Bd(S:CompScope X loc cap scope)(I:Inv X ZY σ H s)(hcl:∀x c,cl.lookup x=Wb c->X.env.cells.lookup x=Wb c)(hcl2:∀y∈scope.names,y.2=.free->∃c,cl.lookup y.1=Wb c)(hf:∀b∈fp,lw X ZY H b)(hlt:∀b∈fp,b<s.heap.objs.size)(hns:h1.Ns s.heap.objs.size λa=>Wc)(hk:∀b o,s.heap.get? b=Wb o->h1.get? b=Wb o):
  Inv (fh X (loc++cap.map (·.1)) scope cl fp s H) [] (o8 loc cap σ) H {s with heap:=h1}:=by
 have fromK:∀x,(relabel scope X.env).names.lookup x=Wb .cell\/(relabel scope X.env).names.lookup x=Wb .free->∃y∈scope.names,y.2=.free/\y.1=x:=by
  intro x hx;have:∃k,(relabel scope X.env).names.lookup x=Wb k/\(k=.cell\/k=.free):=by
   rcases hx with z|z
   ·exact(aD _ z<|.inl rfl)
   ·exact(aD _ z<|.inr rfl)
  obtain⟨k,e,hk⟩:=this;have hm:=R7 e;obtain⟨y,hy,e2⟩:=U3.mp hm;obtain⟨n,k'⟩:=y;have e3:(if (k'==J6&&X.env.scope.kind==.function&&X.env.kindOf n==Wb .cell)=Wd then (n,N7.cell) else (n,k'))=(x,k):=e2;by_cases hc:(k'==J6&&X.env.scope.kind==.function&&X.env.kindOf n==Wb .cell)=Wd
  ·rw[VP hc]at e3;injection e3 with e4 _;simp only[N3]at hc;exact(eD (n,k') hy (by simpa using hc.1.1) e4)
  ·rw[VQ hc]at e3;injection e3 with e4 e5;rcases hk with z|z
   ·rw[z]at e5;exact VR e5<|S.nocell _ hy
   ·rw[z]at e5;exact(eD (n,k') hy e5 e4)
 refine⟨⟨I.ok.mod,S.kind,I.ok.glob,I.ok.blt,bW _,λx y c h1 h2=>I.ok.inj x y c (hcl x c h1)<|hcl y c h2,λx hx=>?_,λx c h a=>VR h (by show ¬ (We=Wd);decide),I.ok.hd,I.ok.frames,.inl rfl,λb hb=>⟨eP<|hlt b hb,λx c e=>(hf b hb).2.2.2.2.1 x c (hcl x c e)⟩,I.bs,
   aO I.ok.bsz I.sz,λb o e z=>?_,λb hb z=>?_,I.stack,I.stkFree⟩,
  rfl,I.bare,Un.kept hk,(aD _ hns λi x v h1 h2 h3=>?_),λx c e=>?_,I.hok.fresh<|bW _,λx c e=>I.freeC x c<|hcl x c e,λp hp=>VR (show p∈([]:List (Wy×Obj)) from hp) (by simp),I.hok.kept hk,st0_len⟩
 ·obtain⟨y,hy,hfr,rfl⟩:=fromK x hx;exact hcl2 y hy hfr
 ·
  have hb:=hf b z;rcases hb.2.2.2.1 with q|q
  ·exact I.ok.noex b o e q
  ·exact VR (cW (Y4 e)<|aO I.ok.bsz q)<|Q0 _
 ·have z':=I.stkSub b z;rcases Y1.mp z' with q|q
  ·exact(hf b hb).2.1 q
  ·exact(hf b hb).2.2.1 q
 ·obtain⟨p,hp,e1,e2⟩:=st0_get h2;have e3:x=p.1:=Z4<|h1.symm.trans e1;subst e3;obtain⟨c1,c2,c3⟩:=S.cap.get p hp;obtain⟨m,_,hl⟩:=I.loc;have vis:Vis X.env.scope p.1:=by
   rcases c3 with k|k
   ·exact .inr<|.inl k
   ·exact .inr<|.inr k
  obtain⟨u,r,l⟩:=hl p.2 p.1 v c1 e2 vis;refine(aD u r<|.inr ⟨?_,?_⟩)
  ·obtain⟨k,e,hk⟩:=kd (env:=X.env) c2;rcases hk with z|z
   ·subst z;exact .inl e
   ·subst z;exact .inr e
  ·rcases l with zr2_|zr1_
   ·obtain⟨k,_⟩:=zr2_;rcases c3 with z|z
    ·rw[k]at z;cases z
    ·rw[k]at z;cases z
   ·obtain⟨_,c,e,hc⟩:=zr1_;obtain⟨c',hc'⟩:=hcl2 (p.1,.free) (R7 c2) rfl;have:c'=c:=Z4<|(hcl _ _ hc').symm.trans e;subst this;obtain⟨o,ho,hd⟩:=hc;exact⟨c',hc',o,hk _ o ho,hd⟩
 ·obtain⟨v,o,ho,hd⟩:=I.cell x c<|hcl x c e;exact⟨v,o,hk _ o ho,hd⟩
end
def Be(g:TG)(tt:TT)(te:TE)(loc:ZL)(cap:ZI)(σ:St)(D:Wy)(ys:List V)(N:List V->Hp->Prop)(x:V)(H':Hp):Prop :=
 g x (o8 loc cap σ) H' λσ3 H3=>Wk (o8 loc cap σ) σ3/\tt σ3 H3 λb H4=>if b=Wd then te σ3 H4 λv H5=>H5 D=Wb (.lst ys)/\ys.length<W0/\N (ys++[v]) (aB H5 D<|.lst<|ys++[v]) else N ys H4
def yd(g:TG)(tt:TT)(te:TE)(loc:ZL)(cap:ZI)(σ:St)(D:Wy)(Q:VK)(J:It)(H1:Hp):Prop :=
 ∃W:Nat->Nat->List V->Hp->Prop,(∃m,W 0 m [] (aB H1 D<|.lst []))/\∀i m ys H2,W i m ys H2->H2 D=Wb (.lst ys) /\
  ((J.stop i H2/\Q (.ref D) H2)\/(J.go i H2/\∃N:List V->Hp->Prop,(∀ys' H',N ys' H'->∃m',m'<m/\W (i+1) m' ys' H')/\∀x H',J.yld i H2 x H'->Be g tt te loc cap σ D ys N x H'))
def p6(wi:TI)(loc:ZL)(cap:ZI)(g:TG)(tt:TT)(te:TE):TE:=λσ H Q=>wi σ H λJ H1=>∀D,H1 D=Wc->yd g tt te loc cap σ D Q J H1
def ye:TT:=λx H Q=>Q Wd H
def wD(X:Cx)(ifs:List WC)(t:TT):Prop :=
 ∀(ZY:ZN) (s:Ww) (σ:St) (H:Hp) (Q:Bool->Hp->Prop),Inv X ZY σ H s->t σ H Q ->
  Wz (WA X.prog X.w) X.A (forIn ifs Wd λc r=>if r=Wd then do let ok <- isTrue c X.env (WF c X.env);pure (ForInStep.yield ok) else pure (ForInStep.yield r)) (TP X ZY σ Q) X.xe s
def bQ:wD X [] ye:=λx x x H x I h=>wpAny_tests_nil ⟨H,I,h⟩
def g9(hc:PT X c t):wD X [c] t:=λZY s σ H Q I h=>wpAny_tests_one<|hc ZY s σ H Q I h
section
variable {X:Cx}{tg iter elt:WC}{ifs:List WC}{scope:WY}{loc:ZL}{cap:ZI}{pos:Pos}{wi:TI}{g:TG}{tt:TT}{te:TE}
def zy{tn:Nat->WD->Prop}{RR:Vr->Ww->Prop}{W:Nat->Nat->List V->Hp->Prop}{Q:VK}(hc:Y.calm=Wd)(hx:Y.xe=λa a=>False)(hg:PG Y tg g)(ht:wD Y ifs tt)(he:PE Y elt te)(T:Turn Y.prog Y.w Y.K tg J fp it tn)(st4:tn 0 s4.heap)(I4:Inv Y [] (o8 loc cap σ) H3 s4)(f3:∀b∈fp,H3 b=Wc)(w0:W 0 m0 [] H3)(fpC:∀{H':Hp},(∀b∈fp,H' b=Wc)->∀b∈fp,lw Y [] H' b)(turn:∀i m ys H2,W i m ys H2->H2 D=Wb (.lst ys)/\((J.stop i H2/\Q (.ref D) H2)\/(J.go i H2/\∃N:List V->Hp->Prop,(∀ys' H',N ys' H'->∃m',m'<m/\W (i+1) m' ys' H')/\∀x H',J.yld i H2 x H'->Be g tt te loc cap σ D ys N x H')))(fin:∀{H':Hp} {s':Ww},Inv Y [] (o8 loc cap σ) H' s'->Q (.ref D) H'->RR (.ok .next) s'):
  D4 (WA Y.prog Y.w) Y.A (.compLoop (.ListComp elt [⟨tg,iter,ifs,0⟩] scope pos) 0 (.ref it) (.ref D) Y.env) RR s4:=by
 unfold PG at hg;unfold wD at ht;unfold PE at he;rw[hx]at hg ht he;have ma:=cM (X:=Y);unfold MtM at ma;rw[hx]at ma;refine sJ (λn s'=>∃i ys H',Inv Y [] (o8 loc cap σ) H' s'/\tn i s'.heap/\(∀b∈fp,H' b=Wc)/\W i n ys H') ?_ m0 ⟨0,[],H3,I4,st4,f3,w0⟩;rintro n s5 ⟨i,ys,H5,I5,st5,fr5,w5⟩;obtain⟨hd5,alt⟩:=turn i n ys H5 w5;rcases alt with zr4_|zr3_
 ·obtain⟨stop,q⟩:=zr4_;refine bI (T.done Y rfl rfl rfl hc i [] s5 _ H5 (λa a=>False) I5 (fpC fr5) st5 stop) λr s6 ⟨hr,I6⟩=>?_;subst hr;exact fin I6 q
 ·obtain⟨go,N,hN,step⟩:=zr3_;refine bI (T.item Y rfl rfl rfl hc i [] s5 _ H5 (λa a=>False) I5 (fpC fr5) st5 go) λr s6 ⟨u,hr,h6⟩=>?_;subst hr;refine bI h6 λ_ s7 ⟨x,H7,I7,r7,y7,st7,fr7⟩=>?_;have I7':=I7.pinned (fpC fr7)<|T.obj _ _ st7;refine bI (hg _ s7 _ H7 x u _ I7' r7<|step x H7 y7) λ_ s8 ⟨σ8,H8,I8,q8⟩=>?_;obtain⟨wk,q8⟩:=q8;have again:∀{H9:Hp} {s9:Ww} {zs:List V},Inv Y ([]++oK fp s7.heap) σ8 H9 s9->N zs H9->∃m,m<n/\∃i ys H',Inv Y [] (o8 loc cap σ) H' s9/\tn i s9.heap/\(∀b∈fp,H' b=Wc)/\W i m ys H':=λ{H9 s9 zs} I9 n9=>by obtain⟨m',hm,w9⟩:=hN zs H9 n9;refine⟨m',hm,i+1,zs,H9,(I9.weak wk.len wk.get).unpinned,T.keep _ _ _ st7 λb hb o e=>(I9.pin (b,o)<|Y2 _<|Y2 _<|iS hb e).1,λb hb=>?_,w9⟩;obtain⟨o,e,d⟩:=T.obj _ _ st7 b hb;exact(I9.pin (b,o)<|Y2 _<|Y2 _<|iS hb e).2.1
  refine bI (ht _ s8 σ8 H8 _ I8 q8) λok s9 ⟨H9,I9,q9⟩=>?_;cases ok with
  |false =>rw[VQ Z3]at q9 ⊢;exact again I9 q9
  |true =>rw[VP rfl]at q9 ⊢;refine bI (he _ s9 σ8 H9 _ I9 q9) λu' s10 ⟨v,H10,I10,r10,hD10,hl10,n10⟩=>?_;refine bI (ma _ s10 σ8 H10 (.ref D) [v] (.ref D) [u'] (λa H11=>N (ys++[v]) H11) I10 rfl (.cons r10 .nil) ⟨_,ys,v,rfl,rfl,hD10,hl10,n10⟩) λ_ s11 ⟨_,H11,I11,_,n11⟩=>?_;exact again I11 n11
def p7{σ:St}{tn:Nat->WD->Prop}{E:ZU}{RR:Wx->Wy->Vr->Ww->Prop}(hc:X.calm=Wd)(S:CompScope X loc cap scope)(hg:∀cl fp s3 H3,PG (fh X (loc++cap.map (·.1)) scope cl fp s3 H3) tg g)(ht:∀cl fp s3 H3,wD (fh X (loc++cap.map (·.1)) scope cl fp s3 H3) ifs tt)(he:∀cl fp s3 H3,PE (fh X (loc++cap.map (·.1)) scope cl fp s3 H3) elt te)(hcl:∀x c,cl.lookup x=Wb c->X.env.cells.lookup x=Wb c)(hcl2:∀y∈scope.names,y.2=.free->∃c,cl.lookup y.1=Wb c)(I:Inv X ZY σ H s)(T:Turn X.prog X.w X.K tg J fp it tn)(st:tn 0 s.heap)(hf:∀b∈fp,lw X ZY H b)(h:∀D,H D=Wc->yd g tt te loc cap σ D Q J H)(hRR:∀D C s' H' m,Inv X ZY σ H' s'->lw X ZY H' C->s'.heap.Ns C m->Q (.ref D) H'->RR (.ref D) C (.ok .next) s'):
  Wz (WA X.prog X.w) X.A (newList []) (λWo s₃=>Wz (WA X.prog X.w) X.A (newFunctionEnv scope X.env.globals cl [] X.env.qual Wc .none<|some X.env) (λcenv s₄ =>
   D4 (WA X.prog X.w) X.A (.compStart (.ListComp elt [⟨tg,iter,ifs,0⟩] scope pos) 0 (.ref it) Wo {cenv with scope:=relabel scope X.env}) (RR Wo cenv.locals) s₄) E s₃) E s:=by
 have hlt:∀b∈fp,b<s.heap.objs.size:=λb hb=>bN (T.obj 0 _ st b hb) λo e a=>Y4 e;have hD:H s.heap.objs.size=Wc:=I.hok.fresh<|bW _;obtain⟨W,⟨m0,w0⟩,turn⟩:=h _ hD;refine O6<|wpAny_newFunctionEnv S.nocell (by intro y hy;simp at hy) (λh₁ hns₁ hsb₁=>?_) S.kind;have hD2:({cls:=.type "list",dict:=Wc,data:=.seq ([]:List Wx).toArray}:Obj)={cls:=.type "list",data:=.seq ([]:List Wx).toArray 0}:=rfl;have I3:Inv X ZY σ (aB H s.heap.objs.size<|.lst []) {s with heap:=s.heap.push {cls:=.type "list",dict:=Wc,data:=.seq ([]:List Wx).toArray}} :=
  I.laid (t':=s.toks) (λb o e=>Z2 _ e) (bW _) ⟨U2 _,[],0,.nil,Y7 _ rfl⟩
 generalize hS3:({s with heap:=s.heap.push {cls:=.type "list",dict:=Wc,data:=.seq ([]:List Wx).toArray}}:Ww)=s3 at I3 hns₁ hsb₁ ⊢;generalize hH3:aB H s.heap.objs.size (.lst [])=H3 at I3 w0;have sz3:s3.heap.objs.size=s.heap.objs.size+1:=by rw[<- hS3];exact N6 ..
 have fp3:∀b∈fp,lw X ZY H3 b:=λb hb=>by obtain⟨f0,fr⟩:=hf b hb;refine⟨?_,fr⟩;rw[<- hH3,ah (eP<|hlt b hb)];exact f0
 have ltq3:∀b∈fp,b<s3.heap.objs.size:=λb hb=>by rw[sz3];exact T6<|hlt b hb
 have k1:∀b o,s3.heap.get? b=Wb o->h₁.get? b=Wb o:=λb o e=>hsb₁.extBut b o (eP<|Y4 e)<|Z2 _ e;have I4:Inv (fh X (loc++cap.map (·.1)) scope cl fp s3 H3) [] (o8 loc cap σ) H3 {s3 with heap:=h₁}:=Bd S I3 hcl hcl2 fp3 ltq3 (by simpa using hns₁) k1;have st4:tn 0 h₁:=T.keep 0 _ _ st λb hb o e=>k1 b o (by rw[<- hS3];exact Z2 _ e);have fpC:∀{H':Hp},(∀b∈fp,H' b=Wc)->∀b∈fp,lw (fh X (loc++cap.map (·.1)) scope cl fp s3 H3) [] H' b:=λ{H'} hn b hb =>
  ⟨hn b hb,eP<|ltq3 b hb,λz=>(I4.ok.exfs b hb z),.inl hb,λx c e=>(hf b hb).2.2.2.2.1 x c (hcl x c e),λp hp=>VR (show p∈([]:List (Wy×Obj)) from hp) (by simp)⟩
 have toks0:({s3 with heap:=h₁,toks:=s3.toks+([]:List (Str×Wx)).length}:Ww)={s3 with heap:=h₁}:=rfl;rw[toks0];have fin:∀{H':Hp} {s':Ww} {σ':St},Inv (fh X (loc++cap.map (·.1)) scope cl fp s3 H3) [] σ' H' s'->Inv X ZY σ H' s':=λ{H' s' σ'} J' =>
  I3.call' J'.os J'.base J'.hok J'.bare λb hb=>by obtain⟨_,f1,f2,f3,f4,f5⟩:=hf b hb;exact(qr f3 f1 f4 f5)
 have loop:D4 (WA X.prog X.w) X.A (.compLoop (.ListComp elt [⟨tg,iter,ifs,0⟩] scope pos) 0 (.ref it) (.ref s.heap.objs.size)<|compEnvC scope cl s3.heap.objs.size X.env) (RR (.ref s.heap.objs.size) s3.heap.objs.size) {s3 with heap:=h₁} :=
  zy (Y:=fh X (loc++cap.map (·.1)) scope cl fp s3 H3) hc rfl (hg cl fp s3 H3) (ht cl fp s3 H3) (he cl fp s3 H3) T st4 I4 (λb hb=>(fp3 b hb).1) w0 fpC turn λI6 q=>bN I6.loc λm hn a=>hRR _ _ _ _ m (fin I6) (I3.fpOk (bW _) I6.free) hn q
 exact codeAny_compStart_list loop<|T.self _ 0 _ _ _ st4 loop
def cb(hc:X.calm=Wd)(S:CompScope X loc cap scope)(hi:PI X tg iter wi)(hg:∀cl fp s3 H3,PG (fh X (loc++cap.map (·.1)) scope cl fp s3 H3) tg g)(ht:∀cl fp s3 H3,wD (fh X (loc++cap.map (·.1)) scope cl fp s3 H3) ifs tt)(he:∀cl fp s3 H3,PE (fh X (loc++cap.map (·.1)) scope cl fp s3 H3) elt te)(hs:autoParam (∀x,Vo iter X.env x=pure x) a1q._auto_1):
  PE X (.ListComp elt [⟨tg,iter,ifs,0⟩] scope pos) (p6 wi loc cap g tt te):=by
 intro ZY s σ H Q I h;obtain⟨cl,hcl0,hcl,hcl2⟩:=kG (scope:=scope) (env:=X.env) λy hy hf=>I.ok.has y.1<|S.free y hy hf;rw[eval_ListComp];refine VA (use:=Wc) rfl hs hcl0 S.kind S.names (bI (hi ZY s σ H _ I h) λv s1 h1=>bI h1 λitv s2 h2=>?_);obtain⟨it,fp,tn,J,H2,rfl,I2,T,st2,f2,R⟩:=h2;refine p7 (RR:=λWo C=>compPost (WA X.prog X.w) X.A X.xe Wc (EP X ZY σ Q) Wo C) hc S hg ht he hcl hcl2 I2 T st2 f2 R ?_;intro D C s' H' m I' fC hn q;exact⟨m,hn,λh'' hs''=>⟨.ref D,H',I'.turned (t':=s'.toks) (λb o hb e=>(hs''.2 b hb).trans e) fC.1 fC.2.1 fC.2.2.2.1 fC.2.2.2.2.1 fC.2.2.2.2.2,rfl,q⟩⟩
def fP{i:Nat}{x:Str}{Ws spos:Pos}(hc:X.calm=Wd)(S:CompScope X loc cap scope)(hN:X.N.Nodup)(hi':X.N[i]?=Wb x)(hx:Loc X.env.scope x)(hi:PI X tg iter wi)(hg:∀cl fp s3 H3,PG (fh X (loc++cap.map (·.1)) scope cl fp s3 H3) tg g)(ht:∀cl fp s3 H3,wD (fh X (loc++cap.map (·.1)) scope cl fp s3 H3) ifs tt)(he:∀cl fp s3 H3,PE (fh X (loc++cap.map (·.1)) scope cl fp s3 H3) elt te)(hsw:autoParam (Vt (.ListComp elt [⟨tg,iter,ifs,0⟩] scope pos) (Wb<|.Name x Ws) spos.line X.env=pure Wd) cV._auto_1)(hf:X.fn x=Wd\/X.env.scope.names.lookup x=Wb .local:=by first|exact .inl rfl|exact .inr rfl|assumption)(hs:autoParam (∀x,Vo iter X.env x=pure x) a1q._auto_1):
  PS X (.Assign [.Name x Ws] (.ListComp elt [⟨tg,iter,ifs,0⟩] scope pos) spos) (ie (p6 wi loc cap g tt te)<|du i):=by
 intro ZY s σ H D I h;obtain⟨cl,hcl0,hcl,hcl2⟩:=kG (scope:=scope) (env:=X.env) λy hy hf=>I.ok.has y.1<|S.free y hy hf;rw[exec_Assign_Name_used _ _ _ _ hsw];refine Z0<|WJ<|Z0 ?_;show Wz _ X.A (do let _ <- comprehension (.ListComp elt [⟨tg,iter,ifs,0⟩] scope pos) scope X.env _ (newList []) We (WF iter X.env) (Wb<|assign (.Name x Ws) X.env)) _ _ s;refine Z0 (bI (VA (use:=Wb<|assign (.Name x Ws) X.env) (Q:=λc s'=>SP X ZY D .next s') rfl hs hcl0 S.kind S.names
  (bI (hi ZY s σ H _ I h) λv s1 h1=>bI h1 λitv s2 h2=>?_)) λc s' hq=>Z8<|Z8 hq)
 obtain⟨it,fp,tn,J,H2,rfl,I2,T,st2,f2,R⟩:=h2;refine p7 (RR:=λWo C=>compPost (WA X.prog X.w) X.A X.xe (Wb<|assign (.Name x Ws) X.env) (λc s'=>SP X ZY D .next s') Wo C) hc S hg ht he hcl hcl2 I2 T st2 f2 R ?_;intro D' C s' H' m I' fC hn q;show Wz _ X.A (assign (.Name x Ws) X.env<|.ref D') _ _ s';refine wpAny_assign_Name<|qS I' hN hi' hx (v:=.ref D') rfl (λs'' I'' ⟨a,hsb,ha⟩=>?_) hf;have hCa:C≠a:=by
  rcases ha with z|z
  ·rw[z];exact fC.2.1
  ·exact V8<|fC.2.2.2.2.1 x a z
 refine(aD m (hn.sameBut hsb hCa) λh'' hs''=>⟨_,H',I''.turned (t':=s''.toks) (λb o hb e=>(hs''.2 b hb).trans e) fC.1 fC.2.1 fC.2.2.2.1 fC.2.2.2.2.1 fC.2.2.2.2.2,q⟩)
end
section
variable {X:Cx}{ZY:ZN}{σ:St}{H:Hp}{s:Ww}{h':WD}
def Inv.turnedL{ch:Zy}(I:Inv X ZY σ H s)(hch:∀b∈ch,lw X ZY H b)(k:∀b u,b∉ch->s.heap.get? b=Wb u->h'.get? b=Wb u):Inv X ZY σ H {s with heap:=h',toks:=t'}:=by
 have nch:∀b u,H b=Wb u->b∉ch:=λb u e z=>by rw[(hch b z).1]at e;cases e
 refine I.step (g':=s.gens) (d':=s.drawn) (ch:=ch) (λb hb=>?_) (λb u x x hc e x=>k b u hc e) (λb u x x hc e x=>⟨u.slots,k b u hc e⟩)
  (λb u x x n=>n) (λb u hc e=>⟨u,k b u hc e⟩) (λb xs e=>e) (λb u xs e=>e) (λb ps e=>⟨#[],by rw[e];simp⟩) (λm hm=>?_) (λb u e=>?_) I.bare
 ·have f:=hch b hb;exact(qr f.2.2.2.1 f.2.1 f.2.2.2.2.1 f.2.2.2.2.2)
 ·obtain⟨o,es,ep,ho,r⟩:=hm;exact⟨o,es,ep,k _ o (λz=>(hch _ z).2.1 rfl) ho,r⟩
 ·refine(I.hok b u e).stay (λc v hc q=>k c v ?_ q) (λc q=>q) λc xs q=>q;rcases hc with z|z
  ·rw[z];exact nch b u e
  ·exact nch c _ z
def Inv.turnNew{a:Wy}{o:HO}{ch:Zy}{t':Nat}(I:Inv X ZY σ H s)(hch:∀b∈ch,lw X ZY H b)(ha:s.heap.objs.size<=a)(k:∀b u,b∉ch->s.heap.get? b=Wb u->h'.get? b=Wb u)(new:bA X.prog X.w (aB H a o) h' a o):Inv X ZY σ (aB H a o) {s with heap:=h',toks:=t'}:=by
 have hn:H a=Wc:=I.hok.fresh ha;have fa:=I.fpOk ha hn;have Wr:∀b u,H b=Wb u->b≠a:=λb u e=>ag e hn;have nch:∀b u,H b=Wb u->b∉ch:=λb u e z=>by rw[(hch b z).1]at e;cases e
 refine I.step (g':=s.gens) (d':=s.drawn) (ch:=a ::ch) (λb hb=>?_) (λb u x x hc e x=>k b u (λz=>hc<|Y8 _ z) e) (λb u x x hc e x=>⟨u.slots,k b u (λz=>hc<|Y8 _ z) e⟩)
  (λb u hc x n=>by rw[ah λz=>hc (by rw[z];exact Y5)];exact n) (λb u hc e=>⟨u,k b u (λz=>hc<|Y8 _ z) e⟩)
  (λb xs e=>by rw[ah (Wr b _ e)];exact e) (λb u xs e=>by rw[ah (Wr b _ e)];exact e) (λb ps e=>⟨#[],by rw[ah (Wr b _ e),e];simp⟩) (λm hm=>?_) (λb u e=>?_) I.bare
 ·rcases Y1.mp hb with z|z
  ·rw[z];exact(qr fa.2.2.2.1 fa.2.1 fa.2.2.2.2.1 fa.2.2.2.2.2)
  ·have f:=hch b z;exact(qr f.2.2.2.1 f.2.1 f.2.2.2.2.1 f.2.2.2.2.2)
 ·obtain⟨o,es,ep,ho,r⟩:=hm;exact⟨o,es,ep,k _ o (λz=>(hch _ z).2.1 rfl) ho,r⟩
 ·by_cases hb:b=a
  ·subst hb;rw[ae]at e;cases e;exact new
  ·rw[ah hb]at e;refine(I.hok b u e).stay (λc v hc q=>k c v ?_ q) (λc q=>by rw[ah (Wr c _ q)];exact q) λc xs q=>by rw[ah (Wr c _ q)];exact q
   rcases hc with z|z
   ·rw[z];exact nch b u e
   ·exact nch c _ z
end
def Ite(K:Z1)(a:Wy):It :=
 ⟨λi H=>∃xs x,dj K H a xs/\xs[i]?=Wb x,λi H x H'=>∃p y,x=.ref p/\H p=Wc/\H'=aB H p (.tup [.int (i:Nat),y])/\∀xs,dj K H a xs->xs[i]?=Wb y,λi H=>∃xs,dj K H a xs/\xs.length<=i⟩
def zA{K:Z1}(a e it:Wy)(Wr:e≠it):
  Turn P w K (.Tuple elts x1 pos) (Ite K a) [e,it] e (λi h=>(∃old,IsEnum h e it ((i:Nat):Int) old)/\h.IsListIter it a i) where
 mem:=by simp
 obj:=λi h st b hb=>by
  obtain⟨⟨old,he⟩,hi⟩:=st;have hb':b=e\/b=it:=by simpa using hb
  rcases hb' with z|z
  ·rw[z];exact(aD _ he (λv q=>by have q':Data.fields _=Data.cell v:=q;cases q'))
  ·rw[z];obtain⟨o,e',c,d⟩:=hi;exact(aD o e' (λv q=>by rw[d]at q;cases q))
 keep:=λi h h' st k=>by obtain⟨⟨old,he⟩,hi⟩:=st;exact⟨⟨old,k e (by simp) _ he⟩,hi.at λo q=>k it (by simp) o q⟩
 item:=by
  intro X hP hw hK hc i ZY s σ H E I hf st hg;subst hP hw hK;obtain⟨⟨old,he⟩,hit⟩:=st;obtain⟨xs,x,hq,hx⟩:=hg;obtain⟨Wj,rv,p,hz⟩:=I.list hq;obtain⟨u,hu,ru⟩:=rv.get hx;refine wpAny_pyNext_enum_item he hit p.isList (x:=u) (by simpa using hu) Wr λh1 heo hit1 ht1 hz1 hk1=>?_;refine(aD _ rfl (wpAny_letOwnedTupleGo_enum heo λh2 he2 hs2=>?_));replace hs2:S8 e h1 h2:=hs2;replace he2:IsEnum h2 e it ((i:Int)+1) u:=he2;have hlt:e<s.heap.objs.size:=Y4 he;have hk2:∀b o,b∉[e,it]->s.heap.get? b=Wb o->h2.get? b=Wb o:=λb o hb q=>by have b1:b≠e:=λz=>hb (by simp[z]);have b2:b≠it:=λz=>hb (by simp[z]);exact(hs2.2 b b1).trans (hk1 b o b1 b2 q)
  have t2:h2.get? s.heap.objs.size=Wb {cls:=.type "tuple",data:=.seq #[.int (i:Nat) s.toks,u]}:=(hs2.2 _<|O2 hlt).trans ht1;refine(AB (.ref s.heap.objs.size) _ (I.turnNew (t':=s.toks+1) (ch:=[e,it]) (a:=s.heap.objs.size) (o:=.tup [.int (i:Nat),x]) hf (bW _) hk2 ?_) rfl ⟨_,x,rfl,I.hok.fresh<|bW _,rfl,λys hy=>by rw[I.list_inj hy hq];exact hx⟩ ⟨⟨u,?_⟩,hit1.extBut hs2.extBut<|V8 Wr⟩ λb hb=>?_)
  ·exact⟨by show 2<=W0;decide,[.int (i:Nat) s.toks,u],.cons ⟨_,rfl⟩<|.cons ru .nil,⟨_,t2,rfl,_,rfl⟩⟩
  ·have e1:((i+1:Nat):Int)=(i:Int)+1:=by push_cast;rfl
   rw[e1];exact he2
  ·have f:=hf b hb;have hbl:b≠s.heap.objs.size:=by
    have hb':b=e\/b=it:=by simpa using hb
    rcases hb' with z|z
    ·rw[z];exact eP hlt
    ·obtain⟨o,e',_⟩:=hit;rw[z];exact eP<|Y4 e'
   rw[ah hbl];exact f.1
 done:=by intro X hP hw hK hc i ZY s σ H E I hf st hg;subst hP hw hK;obtain⟨⟨old,he⟩,hit⟩:=st;obtain⟨xs,hq,hx⟩:=hg;obtain⟨Wj,rv,p,hz⟩:=I.list hq;have hl:=rv.length;exact wpAny_pyNext_enum_end (I.ok.hd hc) he hit p.isList (by simp;exact aO (bK hl.symm) hx) λh' eb=>⟨rfl,I.turnedL (t':=s.toks) (ch:=[e,it]) hf λb o hb q=>eb b o (λz=>hb (by simp[z])) q⟩
 self:=λy y y y y st h=>by obtain⟨⟨old,he⟩,_⟩:=st;exact wpAny_pyIter_enum he h
section
variable {X:Cx}{elts:List WC}{x1:Nat}{tpos:Pos}
def Bf(K:Z1)(ta:TA):TI:=λσ H R=>ta σ H λvs H1=>∃a,vs=[.ref a]/\(∃xs,dj K H1 a xs)/\R (Ite K a) H1
def pi_enum{a:WC}{ta:TA}{p pos:Pos}(hg:Gl X "enumerate")(hm:X.mg "enumerate"=Wc)(ha:PA X [a] ta)(hs:autoParam (X5 [a] X.env=[(We,WF a X.env)]) cV._auto_1):
  PI X (.Tuple elts x1 tpos) (.Call (.Name "enumerate" p) [a] [] pos) (Bf X.K ta):=by
 intro ZY s σ H R I h;refine Call_<|iq I hg hm boot_enumerate<|P7 (bI (ha pos ZY s σ H _ I h) λus s1 ⟨vs,H1,I1,r1,q1⟩=>?_) hs rfl;obtain⟨l,rfl,⟨xs,hq⟩,q⟩:=q1;obtain⟨u,rfl,ru⟩:=vals1 r1;cases ru;obtain⟨Wj,rv,pl,hz⟩:=I1.list hq;refine call_enumerate_list pl.isList λh' he hit hsz hk=>wpAny_pyIter_enum he ?_;have I2:Inv X ZY σ H1 {s1 with heap:=h'}:=I1.kept (t':=s1.toks) hk;refine⟨s1.heap.objs.size+1,[s1.heap.objs.size+1,s1.heap.objs.size],_,_,H1,rfl,I2,zA l _ _<|Nat.succ_ne_self _,⟨⟨_,he⟩,hit⟩,λb hb=>?_,q⟩;have hb':b=s1.heap.objs.size+1\/b=s1.heap.objs.size:=by simpa using hb
 have hle:s1.heap.objs.size<=b:=by
  rcases hb' with z|z
  ·rw[z];exact R6 _
  ·rw[z];exact bW _
 exact I1.fpOk hle<|I1.hok.fresh hle
end
def Itz(K:Z1)(a b:Wy):It :=
  ⟨λi H=>∃xs ys x y,dj K H a xs/\dj K H b ys/\xs[i]?=Wb x/\ys[i]?=Wb y,
   λi H v H'=>∃p x y,v=.ref p/\H p=Wc/\H'=aB H p (.tup [x,y])/\(∀xs,dj K H a xs->xs[i]?=Wb x)/\∀ys,dj K H b ys->ys[i]?=Wb y,
   λi H=>∃xs ys,dj K H a xs/\dj K H b ys/\(xs.length<=i\/ys.length<=i)⟩
def Bg{K:Z1}(a b z TI TO i1 i2:Wy)(D:ZipApart z TI TO i1 i2 a b):
  Turn P w K (.Tuple elts x1 pos) (Itz K a b) [z,TI,TO,i1,i2] z (λi h=>IsZip h z TI TO .none/\IsPair h TI (.ref i1) (.ref i2)/\(∃c d,IsPair h TO c d)/\h.IsListIter i1 a i/\h.IsListIter i2 b i) where
 mem:=by simp
 obj:=λi h st c hc=>by
  obtain⟨hz,hTI,⟨c1,d1,hTO⟩,⟨o1,e1,_,d1'⟩,o2,e2,_,d2'⟩:=st;have hc':c=z\/c=TI\/c=TO\/c=i1\/c=i2:=by simpa using hc
  rcases hc' with q|q|q|q|q<;>rw[q]
  ·exact(aD _ hz (λv r=>by have r':Data.fields _=Data.cell v:=r;cases r'))
  ·exact(aD _ hTI (λv r=>by have r':Data.seq _ _=Data.cell v:=r;cases r'))
  ·exact(aD _ hTO (λv r=>by have r':Data.seq _ _=Data.cell v:=r;cases r'))
  ·exact(aD o1 e1 (λv r=>by rw[d1']at r;cases r))
  ·exact(aD o2 e2 (λv r=>by rw[d2']at r;cases r))
 keep:=λi h h' st k=>by obtain⟨hz,hTI,⟨c1,d1,hTO⟩,h1,h2⟩:=st;exact⟨(k z (by simp) _ hz),(k TI (by simp) _ hTI),⟨c1,d1,(k TO (by simp) _ hTO)⟩,(h1.at λo q=>k i1 (by simp) o q),(h2.at λo q=>k i2 (by simp) o q)⟩
 item:=by
  intro X hP hw hK hc i ZY s σ H E I hf st hg;subst hP hw hK;obtain⟨hz,hTI,⟨c1,d1,hTO⟩,h1,h2⟩:=st;obtain⟨xs,ys,x,y,hq1,hq2,hx,hy⟩:=hg;obtain⟨its1,rv1,p1,_⟩:=I.list hq1;obtain⟨its2,rv2,p2,_⟩:=I.list hq2;obtain⟨u1,hu1,ru1⟩:=rv1.get hx;obtain⟨u2,hu2,ru2⟩:=rv2.get hy;refine wpAny_pyNext_zip_item D hz hTI hTO h1 h2 p1.isList p2.isList (x:=u1) (y:=u2) (by simpa using hu1) (by simpa using hu2) λh' a1 a2 a3 a4 a5 a6 hk=>?_;refine(aD _ rfl (wpAny_letOwnedTupleGo_zip a1 λh2' hz2 hs2=>?_));replace hs2:S8 z h' h2':=hs2;replace hz2:IsZip h2' z TI TO .none:=hz2;have hlt:∀c∈[z,TI,TO,i1,i2],c<s.heap.objs.size:=λc hc=>by
   have hc':c=z\/c=TI\/c=TO\/c=i1\/c=i2:=by simpa using hc
   rcases hc' with q|q|q|q|q<;>rw[q]
   ·exact Y4 hz
   ·exact Y4 hTI
   ·exact Y4 hTO
   ·obtain⟨o,e,_⟩:=h1;exact Y4 e
   ·obtain⟨o,e,_⟩:=h2;exact Y4 e
  have hk2:∀c o,c∉[z,TI,TO,i1,i2]->s.heap.get? c=Wb o->h2'.get? c=Wb o:=λc o hc q =>
   (hs2.2 c λr=>hc (by simp[r])).trans (hk c o (λr=>hc (by simp[r])) (λr=>hc (by simp[r])) (λr=>hc (by simp[r])) (λr=>hc (by simp[r])) q)
  have t2:h2'.get? s.heap.objs.size=Wb {cls:=.type "tuple",data:=.seq #[u1,u2]}:=(hs2.2 _<|O2<|hlt z (by simp)).trans a5;refine(AB (.ref s.heap.objs.size) _ (I.turnNew (t':=s.toks) (ch:=[z,TI,TO,i1,i2]) (a:=s.heap.objs.size) (o:=.tup [x,y]) hf (bW _) hk2 ?_) rfl ⟨_,x,y,rfl,I.hok.fresh<|bW _,rfl,λzs hy=>by rw[I.list_inj hy hq1];exact hx,λzs hz=>by rw[I.list_inj hz hq2];exact hy⟩ ⟨hz2,?_,⟨u1,u2,(hs2.2 _ D.TOz).trans a2⟩,a3.extBut hs2.extBut D.i1z,a4.extBut hs2.extBut D.i2z⟩ λc hc=>?_)
  ·exact⟨by show 2<=W0;decide,[u1,u2],.cons ru1<|.cons ru2 .nil,⟨_,t2,rfl,_,rfl⟩⟩
  ·exact(hs2.2 _ D.TIz).trans (hk TI _ D.TIz D.TITO D.TIi1 D.TIi2 hTI)
  ·rw[ah (eP<|hlt c hc)];exact(hf c hc).1
 done:=by
  intro X hP hw hK hc i ZY s σ H E I hf st hg;subst hP hw hK;obtain⟨hz,hTI,⟨c1,d1,hTO⟩,h1,h2⟩:=st;obtain⟨xs,ys,hq1,hq2,hx⟩:=hg;obtain⟨its1,rv1,p1,_⟩:=I.list hq1;obtain⟨its2,rv2,p2,_⟩:=I.list hq2;have l1:=rv1.length;have l2:=rv2.length;refine wpAny_pyNext_zip_end (I.ok.hd hc) D hz hTI hTO h1 h2 p1.isList p2.isList ?_ λh' hk=>⟨rfl,I.turnedL (t':=s.toks) (ch:=[z,TI,TO,i1,i2]) hf λc o hc q =>
   hk c o (λr=>hc (by simp[r])) (λr=>hc (by simp[r])) (λr=>hc (by simp[r])) (λr=>hc (by simp[r])) q⟩
  rcases hx with q|q
  ·exact .inl (by simp;exact aO (bK l1.symm) q)
  ·exact .inr (by simp;exact aO (bK l2.symm) q)
 self:=λt t t t t st h=>wpAny_pyIter_zip st.1 h
section
variable {X:Cx}{elts:List WC}{x1:Nat}{tpos:Pos}
def iZip(K:Z1)(ta:TA):TI:=λσ H R=>ta σ H λvs H1=>∃a b,vs=[.ref a,.ref b]/\(∃xs,dj K H1 a xs)/\(∃ys,dj K H1 b ys)/\R (Itz K a b) H1
def pi_zip{a b:WC}{ta:TA}{p pos:Pos}(hg:Gl X "zip")(hm:X.mg "zip"=Wc)(ha:PA X [a,b] ta)(hs:autoParam (X5 [a,b] X.env=[(We,WF a X.env),(We,WF b X.env)]) cV._auto_1)(hs2:autoParam (X5 [b] X.env=[(We,WF b X.env)]) cV._auto_1):
  PI X (.Tuple elts x1 tpos) (.Call (.Name "zip" p) [a,b] [] pos) (iZip X.K ta):=by
 intro ZY s σ H R I h;refine Call_<|iq I hg hm boot_zip<|P7 (bI (ha pos ZY s σ H _ I h) λus s1 ⟨vs,H1,I1,r1,q1⟩=>?_) (by rw[hs,hs2]) (by rw[hs2];rfl);obtain⟨l1,l2,rfl,⟨xs,hq1⟩,⟨ys,hq2⟩,q⟩:=q1;obtain⟨u1,u2,rfl,ru1,ru2⟩:=vals2 r1;cases ru1;cases ru2;obtain⟨its1,rv1,p1,_⟩:=I1.list hq1;obtain⟨its2,rv2,p2,_⟩:=I1.list hq2;have b1:l1<s1.heap.objs.size:=by obtain⟨o,n,e,_⟩:=p1;exact Y4 e
 have b2:l2<s1.heap.objs.size:=by obtain⟨o,n,e,_⟩:=p2;exact Y4 e
 refine call_zip_2 p1.isList p2.isList λh' hz hTI hTO h1 h2 hsz hk=>wpAny_pyIter_zip hz ?_;have I2:Inv X ZY σ H1 {s1 with heap:=h'}:=I1.kept (t':=s1.toks) hk;refine⟨s1.heap.objs.size+4,[s1.heap.objs.size+4,s1.heap.objs.size+2,s1.heap.objs.size+3,s1.heap.objs.size,s1.heap.objs.size+1],_,_,H1,rfl,I2,Bg l1 l2 _ _ _ _ _ ?_,⟨hz,hTI,⟨_,_,hTO⟩,h1,h2⟩,λb hb=>?_,q⟩
 ·constructor<;>first|(intro e;have e':(_:Nat)=(_:Nat):=e;(clear e I2 hk hsz h2 h1 hTO hTI hz b2 b1 p2 rv2 p1 rv1 r1 hq2 q hq1 I1 h I hs2 hs ha hm hg;lia))|exact eP b1|exact eP b2|exact eP (cW b1<|R3 _ _)|exact eP<|cW b2<|R3 _ _
 ·have hb':b=s1.heap.objs.size+4\/b=s1.heap.objs.size+2\/b=s1.heap.objs.size+3\/b=s1.heap.objs.size\/b=s1.heap.objs.size+1:=by simpa using hb
  have hle:s1.heap.objs.size<=b:=by rcases hb' with z|z|z|z|z<;>rw[z]<;>first|exact R3 _ _|exact bW _
  exact I1.fpOk hle<|I1.hok.fresh hle
end
mutual
def iE(K:Z1)(H:Hp):PyData->V->Prop
 |.none,v=>v=.non
 |.bool b,v=>v=.bl b
 |.int i,v=>v=.int i
 |.str x,v=>v=.str x
 |.list ds,v=>∃a xs,v=.ref a/\dj K H a xs/\jq K H ds xs
 |.tuple ds,v=>∃a xs,v=.ref a/\l9 K H a xs/\jq K H ds xs
 |.dict _,_=>False
def jq(K:Z1)(H:Hp):List PyData->List V->Prop
 |[],xs=>xs=[]
 |d ::ds,xs=>∃x r,xs=x ::r/\iE K H d x/\jq K H ds r
end
section
variable {X:Cx}{ZY:ZN}{σ:St}{H:Hp}{s:Ww}
def iE.reads(I:Inv X ZY σ H s):∀{v:V} {u:Wx},iE X.K H d v->RelV v u->∃as,Reads s.heap u d as:=by
 refine PyData.rec (motive_1:=λd=>∀{v:V} {u:Wx},iE X.K H d v->RelV v u->∃as,Reads s.heap u d as) (motive_2:=λds=>∀{xs:List V} {us:ZO},jq X.K H ds xs->aS xs us->∃as,ReadsAll s.heap us ds as) (motive_3:=λc=>True) (motive_4:=λc=>True)
  ?_ ?_ ?_ ?_ ?_ ?_ (λc c c c h c=>O4 h) ?_ ?_ trivial (λc c c c=>trivial) (λc c c c=>trivial) d
 ·intro v u h r;cases h;cases r;exact⟨_,.none⟩
 ·intro b v u h r;cases h;cases r;exact⟨_,.bool b⟩
 ·intro i v u h r;cases h;refine k0 r λt z=>⟨[],?_⟩;rw[z];exact .int i t
 ·intro x v u h r;cases h;refine k0 r λt z=>⟨[],?_⟩;rw[z];exact .str x t
 ·intro ds ih v u h r;obtain⟨a,xs,h1,h2,h3⟩:=h;cases h1;cases r;exact bN (I.list h2) λWj rv ⟨z,_⟩=>oq24 z λo n e hc c hd=>k0 (ih h3 rv) λas q=>⟨_,.list e hc hd (by simpa using q)⟩
 ·intro ds ih v u h r;obtain⟨a,xs,h1,h2,h3⟩:=h;cases h1;cases r;exact bN (I.tuple h2) λWj rv ⟨⟨o,e,hc,n,hd⟩,_⟩=>k0 (ih h3 rv) λas q=>⟨_,.tuple e hc hd (by simpa using q)⟩
 ·intro xs us h r;cases h;cases r;exact⟨_,.nil⟩
 ·intro d ds ih1 ih2 xs us h r;obtain⟨x,t,h1,h2,h3⟩:=h;cases h1;cases r with
  |cons r1 r2=>exact k0 (ih1 h2 r1) λas q1=>k0 (ih2 h3 r2) λbs q2=>⟨_,.cons q1 q2⟩
end
section
variable {X:Cx}
def rEqD(K:Z1):R2:=λx y H Q=>∃dx dy,iE K H dx x/\iE K H dy y/\dx.canLay0=Wd/\dy.canLay0=Wd/\min dx.depth dy.depth<=60/\Q (.bl<|PyData.eqv dx dy) H
def rNeD(K:Z1):R2:=λx y H Q=>∃dx dy,iE K H dx x/\iE K H dy y/\dx.canLay0=Wd/\dy.canLay0=Wd/\min dx.depth dy.depth<=60/\Q (.bl<|!PyData.eqv dx dy) H
def op_eqD(hu:X.A.units+64<WO):kh X (R8 .Eq) (rEqD X.K):=by intro ZY s σ H x y v u Q I rx ry h;obtain⟨dx,dy,h1,h2,c1,c2,dp,q⟩:=h;obtain⟨as,ra⟩:=iE.reads I h1 rx;obtain⟨bs,rb⟩:=iE.reads I h2 ry;exact SeqAt.compareEq_reads ra rb c1 c2 (by lia) ⟨.bl _,H,I,rfl,q⟩
def eJ:kh X (WS .FloorDiv) (rI (λx j=>0<j/\j<2^64) λi j=>.int<|i/j):=opI λi j x x x x x hc q=>by
 have h1:(0:Int)<j:=hc.1;have h2:j<2^64:=hc.2;refine floordiv_int (by exact Int.ne_of_gt h1) (by rw[Int.fdiv_eq_ediv_of_nonneg i (by exact Int.le_of_lt h1)];exact q)<|.inl<|PyProof.noPylong_of_log2 ?_;have h3:j.natAbs≠0:=by omega
 have h4:j.natAbs.log2<64:=(Nat.log2_lt h3).mpr (by omega);exact fD h4 (by decide)
def uz:eG X (.builtin "isinstance") (λxs H Q=>∃x t b,xs=[x,.ty T]/\TyOf X.K H x t/\Q5 X.K t (.type T)=Wb b/\Q (.bl b) H):=by intro ZY s σ H xs us Q I r h;obtain⟨x,t,b,rfl,ty,e,q⟩:=h;obtain⟨u,c,rfl,ru,rc⟩:=vals2 r;have rc':c=Value.type T:=rc;subst rc';exact zd I ru ty e λtk=>⟨.bl b,H,I.tok _,rfl,q⟩
end
section
variable {K:Z1}
def uA:Q5 K (.type "int") (.type "int")=Wb Wd:=by with_unfolding_all rfl
def sK:Q5 K (.type "int") (.type "bool")=Wb We:=by with_unfolding_all rfl
def uB:Q5 K (.type "tuple") (.type "tuple")=Wb Wd:=by with_unfolding_all rfl
def km:Q5 K (.type "list") (.type "list")=Wb Wd:=by with_unfolding_all rfl
end
section
variable {g:TG}{tt:TT}{te:TE}{loc:ZL}{cap:ZI}{σ:St}{Q:VK}{J:It}{D:Wy}{H:Hp}
def yf(Pv:Nat->List V->Hp->Prop)(h0:Pv 0 [] (aB H D<|.lst []))(hD:∀i ys H,i<=n->Pv i ys H->H D=Wb (.lst ys))(go:∀i ys H,i<n->Pv i ys H->J.go i H)(st:∀ys H,Pv n ys H->J.stop n H)(hs:∀i ys H x H',i<n->Pv i ys H->J.yld i H x H'->Be g tt te loc cap σ D ys (Pv<|i+1) x H')(hd:∀ys H,Pv n ys H->Q (.ref D) H):yd g tt te loc cap σ D Q J H:=by
 refine⟨λi m ys H=>m=n-i/\i<=n/\Pv i ys H,(eD n (by simp) (U2 _) h0),?_⟩;rintro i m ys H ⟨rfl,hi,p⟩;refine⟨hD i ys H hi p,?_⟩;by_cases hlt:i<n
 ·exact .inr ⟨go i ys H hlt p,Pv<|i+1,λys' H' p'=>(k8 (n-(i+1)) (by omega) rfl hlt p'),λx H' y=>hs i ys H x H' hlt p y⟩
 ·have e:i=n:=by exact T9 hi<|W5.mp hlt
  subst e;exact .inl ⟨st ys H p,hd ys H p⟩
end
def bv(K:Z1)(mg:ZM)(x:Str)(st:WH)(ps:ZL):Prop:=∃f fd,Fun K x x st f fd/\Binds K fd ps []/\mg x=Wb (.ref f)
def iu(P:W7)(w:WB)(K:Z1)(mg:ZM)(base:WD)(k:Nat)(x:Str)(ps:ZL)(sp:Sp):Prop :=
 ∃f fd,FnOk P w K mg base sH k f fd ps sp/\mg x=Wb (.ref f)/\P1 K (.ref f)=Wd/\Binds K fd ps []
section
variable {P:W7}{w:WB}{K:Z1}{mg:ZM}{base:WD}
def bv.has{st:WH}(D:bv K mg x st ps)(S:FnScope N ps (ao st))(len:∀vs H Q E,sp vs H Q E->vs.length=ps.length)(Wv:∀(f:Wy) (ZP:Wx) (A:WE) (outer:List Env) (s:Ww) (H:Hp) (vs:List V) (Q:VK) (E:XK),Room k (A.deeper<|VD x (ao st) s.heap.objs.size f ZP)->sp vs H Q E ->
   ∃t,nQ (lD sH P w K mg base N x (ao st) f ZP A outer s H E).nox (bb st) t/\t {nx:=λa H'=>Q .non H',rt:=Q} (start N vs) H):iu P w K mg base (k+1) x ps sp:=by
 obtain⟨f,fd,F,b,hm⟩:=D;exact⟨f,fd,F.ok S len λZP A outer s H vs Q E hr h=>Wv f ZP A outer s H vs Q E hr h,hm,F.kp,b⟩
end
section
variable {X:Cx}{k:Nat}{ps:ZL}{sp:Sp}{x:Str}{p pos:Pos}{e:WC}{es:List WC}{t:TA}
def p8(G:iu X.prog X.w X.K X.mg X.base k x ps sp)(hr:Room k X.A)(hg:Gl X x)(ha:PA X (e ::es) t)(hdb:autoParam ((x==("__debug__":Str))=We) gR._auto_1)(he:autoParam (X5 (e ::es) X.env=(We,WF e X.env) ::X5 es X.env) cV._auto_1)(hpl:autoParam ((WI pos<|X5 es X.env).any (·.1)=We) cV._auto_1):
  PE X (.Call (.Name x p) (e ::es) [] pos) (lB sp [] E0 t):=by
 obtain⟨f,fd,F,hm,hk,hb⟩:=G;exact pe_call F hr hg hm hk hb .nil qX ha hdb he hpl
end
structure Blt(mg:ZM):Prop where
 len:mg "len"=Wc
 range:mg "range"=Wc
 enumerate:mg "enumerate"=Wc
 zip:mg "zip"=Wc
 min:mg "min"=Wc
 max:mg "max"=Wc
 abs:mg "abs"=Wc
 isinstance:mg "isinstance"=Wc
 int_:mg "int"=Wc
 bool_:mg "bool"=Wc
 list_:mg "list"=Wc
 tuple_:mg "tuple"=Wc
 sorted:mg "sorted"=Wc
 set_:mg "set"=Wc
def Bh:Q2 "len"=Wb (.builtin "len"):=by decide +kernel
def kI:Q2 "min"=Wb (.builtin "min"):=by decide +kernel
def p9:Q2 "max"=Wb (.builtin "max"):=by decide +kernel
def wF:Q2 "abs"=Wb (.builtin "abs"):=by decide +kernel
def dg:Q2 "isinstance"=Wb (.builtin "isinstance"):=by decide +kernel
def gT:Q2 "sorted"=Wb (.builtin "sorted"):=by decide +kernel
def Bi:Q2 "int"=Wb (.type "int"):=by decide +kernel
def bo_bool:Q2 "bool"=Wb (.type "bool"):=by decide +kernel
def fY:Q2 "list"=Wb (.type "list"):=by decide +kernel
def Bj:Q2 "tuple"=Wb (.type "tuple"):=by decide +kernel
def Bk:Q2 "set"=Wb (.type "set"):=by decide +kernel
abbrev Ints(K:Z1)(H:Hp)(a:Wy)(ns:ZW):Prop:=dj K H a<|ns.map V.int
def bO{α β:Type}{F:α->β->Prop}:∀{l₁:List α} {l₂:List β} {i:Nat} {y:β},Paired F l₁ l₂->l₂[i]?=Wb y->∃x,l₁[i]?=Wb x/\F x y:=by
 intro l₁ l₂ i z p;induction p generalizing i with
 |nil=>exact λe=>nomatch e
 |cons r t ih =>
  cases i with
  |zero=>exact λe=>aD _ rfl<|Z4 e▸r
  |succ i=>exact λe=>ih (i:=i) e
def cY{α β:Type}{F:α->β->Prop}:∀{l₁:List α} {l₂:List β} {i:Nat} {x:α},Paired F l₁ l₂->l₁[i]?=Wb x->∃y,l₂[i]?=Wb y/\F x y:=by
 intro l₁ l₂ i z p;induction p generalizing i with
 |nil=>exact λe=>nomatch e
 |cons r t ih =>
  cases i with
  |zero=>exact λe=>aD _ rfl<|Z4 e▸r
  |succ i=>exact λe=>ih (i:=i) e
def def_mk{K:Z1}{mg:ZM}{st:WH}{kV Wu pm ZP ct:Wx}(X:K.In h)(G:h.Ns S6 mg)(a:PySem.W.nsIn K S6 x=Wb (Wb<|.ref f))(l:K.lookup f=Wb ⟨oc,od,.func<|T5 x x (bU st) (bb st) (ao st) .none kV Wu pm an ZP ct,osl⟩)(c:N8 K ZP x=Wd)(k:P1 K (.ref f)=Wd)(hb:∀(kV Wu pm:Wx) (an:Zz) (ZP ct:Wx) (us:ZO),us.length=ps.length->E8 (T5 x x (bU st) (bb st) (ao st) .none kV Wu pm an ZP ct) ⟨us,[]⟩=pure (ps.zip us)):bv K mg x st ps :=
 ⟨f,_,iV (st:=st) l c k,(iV (st:=st) l c k).binds hb,PySem.W.mg_of X G a⟩
def aE(h:H p=Wc):aL H (aB H p o):=λb u e=>by rw[ah (ag e h)];exact e
section
variable {X:Cx}{K:Z1}
def uC(h:X.K=K):SlR X (rSlL K):=by subst h;exact sl_list
def Bl(h:X.K=K):IxR X (wt K):=by subst h;exact ix_list
def ix_tupK(h:X.K=K):IxR X (wu K):=by subst h;exact ix_tup
def Bm(h:X.K=K):kh X (R8 .In) (rIn K We):=by subst h;exact zl
def op_eqDK(h:X.K=K)(hu:X.A.units+64<WO):kh X (R8 .Eq) (rEqD K):=by subst h;exact op_eqD hu
def rLen(K:Z1):List V->Hp->VK->Prop:=λxs H Q=>∃p ys,xs=[.ref p]/\(dj K H p ys\/l9 K H p ys)/\Q (.int ys.length) H
def zB(h:X.K=K):eG X (.builtin "len") (rLen K):=by subst h;exact sC
def sL(K:Z1):List V->Hp->VK->Prop:=λxs H Q=>∃p ys,xs=[.ref p]/\(dj K H p ys\/l9 K H p ys)/\∀l,H l=Wc->Q (.ref l) (aB H l<|.lst ys)
def fQ(h:X.K=K):eG X (.type "list") (sL K):=by subst h;exact sD
def rIsi(K:Z1)(T:String):List V->Hp->VK->Prop:=λxs H Q=>∃x t b,xs=[x,.ty T]/\TyOf K H x t/\Q5 K t (.type T)=Wb b/\Q (.bl b) H
def gU(h:X.K=K):eG X (.builtin "isinstance") (rIsi K T):=by subst h;exact uz
def tTru(K:Z1)(ta:TE):TT:=λσ H Q=>ta σ H λx H'=>∃k,TruV K x H' k/\Q k H'
def o9(h:X.K=K)(ha:PE X a ta)(he:∀whole,isTrue a X.env whole=(do let v <- whole;Vk a.pos;WM [v] (truthy v))):PT X a (tTru K ta):=by subst h;exact AL ha he
def Bn(h:X.K=K)(hl:PE X l tl):PI X tg l (lz K tl):=by subst h;exact pi_list hl
def Bo{elts:List WC}{x1:Nat}{tpos:Pos}{a:WC}{ta:TA}{p pos:Pos}(h:X.K=K)(hg:Gl X "enumerate")(hm:X.mg "enumerate"=Wc)(ha:PA X [a] ta)(hs:autoParam (X5 [a] X.env=[(We,WF a X.env)]) cV._auto_1):
  PI X (.Tuple elts x1 tpos) (.Call (.Name "enumerate" p) [a] [] pos) (Bf K ta):=by subst h;exact pi_enum hg hm ha hs
def sO{elts:List WC}{x1:Nat}{tpos:Pos}{a b:WC}{ta:TA}{p pos:Pos}(h:X.K=K)(hg:Gl X "zip")(hm:X.mg "zip"=Wc)(ha:PA X [a,b] ta)(hs:autoParam (X5 [a,b] X.env=[(We,WF a X.env),(We,WF b X.env)]) cV._auto_1)(hs2:autoParam (X5 [b] X.env=[(We,WF b X.env)]) cV._auto_1):PI X (.Tuple elts x1 tpos) (.Call (.Name "zip" p) [a,b] [] pos) (iZip K ta):=by subst h;exact pi_zip hg hm ha hs hs2
def lJ{es:List WC}{k:Nat}{t:TGs}{n:Nat}{pos:Pos}(h:X.K=K)(hc:X.calm=Wd)(hs:PGs X es t)(hn:autoParam ((WT es X.env).length=n) cV._auto_1)(hst:autoParam ((WT es X.env).findIdx? (·.1)=Wc) cV._auto_1):
  PG X (.Tuple es k pos) (gTup K n t):=by subst h;exact pg_tup hc hs hn hst
section
variable {o e:WC}{es:List WC}{to:TE}{t:TA}{name:Str}{Wq cpos:Pos}{T id:String}{r:V->List V->Hp->VK->Prop}
def og(h:X.K=K)(pa:PlainAttrs T)(slot:Slot T name id)(hty:typeOf (.builtin id)=pure (.type "method_descriptor"))(hm:MtR X id r)(ho:PE X o to)(hbase:autoParam (J5 o name X.env (WF o X.env)=WF o X.env) cV._auto_1)(hline:autoParam ((Wq.endLine==cpos.line)=Wd) cV._auto_1):PE X (.Call (.Attribute o name Wq) [] [] cpos) (zm K T r to):=by subst h;exact pe_bm0 pa slot hty hm ho hbase hline
def gq(h:X.K=K)(pa:PlainAttrs T)(slot:Slot T name id)(hty:typeOf (.builtin id)=pure (.type "method_descriptor"))(hm:MtR X id r)(ho:PE X o to)(ha:PA X (e ::es) t)(hbase:autoParam (J5 o name X.env (WF o X.env)=WF o X.env) cV._auto_1)(hfew:((WI cpos<|X5 (e ::es) X.env).all (λx=>!x.1)&&(Vv cpos<|WW [] X.env).all (λx=>x.1.isSome)
  &&decide ((e ::es).length+([]:List Keyword).length+(if ([]:List Keyword).isEmpty then 0 else 1)<30))=Wd:=by rfl)(hline:autoParam ((Wq.endLine==cpos.line)=Wd) cV._auto_1)(hs:autoParam (X5 (e ::es) X.env=(We,WF e X.env) ::X5 es X.env) cV._auto_1)(hplain:autoParam ((WI cpos<|X5 es X.env).any (·.1)=We) cV._auto_1):
  PE X (.Call (.Attribute o name Wq) (e ::es) [] cpos) (tBM K T r to t):=by subst h;exact pe_bm pa slot hty hm ho ha hbase hfew hline hs hplain
end
end
class Kon where
 T:List Wy
 Q:Wy->Str
def bh(c:Wy)(q:Str):WD->Prop:=λh=>h.CodeRec (.ref c) q
def fI:HO->Prop
 |.tbl _=>False
 |_=>True
structure TbG[Kn:Kon](H:Hp):Prop where
 there:∀P∈Kon.T,∃ps,H P=Wb (.tbl ps)
 good:∀P ps,H P=Wb (.tbl ps)->TriplesOk ps.toList/\∀pos cv,Ve pos ps.toList=Wb cv->∃c,cv=.ref c/\H c=Wb (.ext<|bh c<|Kon.Q P)
structure Sm[Kn:Kon](H H':Hp):Prop where
 kp:∀b o,fI o->H b=Wb o->H' b=Wb o
 tb:∀b ps,H b=Wb (.tbl ps)->∃more,H' b=Wb (.tbl<|ps++more)
 tg:TbG H->TbG H'
section
variable [Kn:Kon]{H H1 H2 H':Hp}{p:Wy}{o:HO}
def Sm.refl(H:Hp):Sm H H:=⟨λx x x h=>h,λx ps h=>⟨#[],by rw[h];simp⟩,λh=>h⟩
def Sm.trans(a:Sm H H1)(b:Sm H1 H2):Sm H H2:=⟨λc o n h=>b.kp c o n<|a.kp c o n h,λc ps h=>by obtain⟨m1,e1⟩:=a.tb c ps h;obtain⟨m2,e2⟩:=b.tb c _ e1;exact⟨m1++m2,by rw[e2,Array.append_assoc]⟩,λh=>b.tg<|a.tg h⟩
def Sm.some(e:Sm H H'){b:Wy}(h:H b=Wb o):∃o',H' b=Wb o':=by
 cases o with
 |tbl ps=>obtain⟨m,q⟩:=e.tb b ps h;exact⟨_,q⟩
 |_=>refine⟨_,e.kp b _ ?_ h⟩;trivial
def Sm.free(e:Sm H H')(h:H' l=Option.none):H l=Option.none:=by
 cases q:H l with
 |none=>rfl
 |some o=>obtain⟨o',z⟩:=e.some q;rw[h]at z;cases z
def gZ{Q:Prop}(q:aB H p o b=Wb u)(f:b=p->o=u->Q)(g:b≠p->H b=Wb u->Q):Q:=(Decidable.em<|b=p).elim (λe=>f e<|Z4<|ae.symm.trans<|(congrArg (aB H p o) e).symm.trans q) λn=>g n<|(ah n).symm.trans q
def ci(n:b≠p)(q:H b=Wb u):aB H p o b=Wb u:=(ah n).trans q
def TbG.mv(g:TbG H)(k1:∀P ps,H P=Wb (.tbl ps)->H' P=Wb (.tbl ps))(k2:∀c q,H c=Wb (.ext<|bh c q)->H' c=Wb (.ext<|bh c q))(n:∀P ps,H' P=Wb (.tbl ps)->H P=Wb (.tbl ps)):TbG H' :=
 ⟨λP hP=>(g.there P hP).imp λps e=>k1 P ps e,λP ps q=>⟨(g.good P ps<|n P ps q).1,λpos cv hc=>((g.good P ps<|n P ps q).2 pos cv hc).imp λc z=>⟨z.1,k2 c _ z.2⟩⟩⟩
def sP(e:o=.tbl ps)(n:fI o):False:=by subst e;exact n
def TbG.poke(g:TbG H)(n:fI o)(h1:∀q,H p≠Wb (.ext<|bh p q))(h2:∀ps,H p≠Wb (.tbl ps)):TbG (aB H p o):=g.mv (λP ps q=>ci (λz=>h2 ps<|z▸q) q) (λc n q=>ci (λz=>h1 n<|z▸q) q) λP ps q=>gZ q (λx e=>(sP e n).elim) λx q=>q
def TbG.pokN(g:TbG H)(n:fI o)(h:H p=Wc):TbG (aB H p o):=g.poke n (λx z=>nomatch h.symm.trans z) λx z=>nomatch h.symm.trans z
def pc(h:H p=Wc)(n:fI o):Sm H (aB H p o):=⟨λx x x q=>ci (ag q h) q,λx ps q=>⟨#[],by rw[Array.append_empty];exact ci (ag q h) q⟩,λg=>g.pokN n h⟩
def NoCode(φ:WD->Prop):Prop:=∀c q,φ≠bh c q
def Own:HO->Prop
 |.lst _=>True
 |.dK _=>True
 |.dT _=>True
 |.ext φ=>NoCode φ
 |_=>False
def Own.noTbl(h:Own u):fI u:=by cases u<;>first|exact h|trivial
def sQ(a:Own u)(e:u=.ext (bh c q)):False:=by subst e;exact a c q rfl
def TbG.pokO(g:TbG H)(n:fI o)(h:H p=Wb u)(a:Own u):TbG (aB H p o):=g.poke n (λx z=>sQ a<|Z4<|h.symm.trans z) λx z=>sP (Z4<|h.symm.trans z) a.noTbl
def sm_chg(e:Sm H H1)(h0:H p=Wc)(h:H1 p=Wb u)(a:Own u)(b:Own u'):Sm H (aB H1 p u'):=⟨λc o n q=>ci (ag q h0)<|e.kp c o n q,λc ps q=>(e.tb c ps q).imp λx z=>ci (ag q h0) z,λg=>(e.tg g).pokO b.noTbl h a⟩
def pe(e:Sm H H1)(h0:H p=Wc)(h:H1 p=Wb u)(a:Own u):Sm H (λb=>if b=p then Option.none else H1 b):=by have k:∀{c:Wy} {o:HO},H1 c=Wb o->c≠p->(if c=p then Option.none else H1 c)=Wb o:=λq n=>(VQ n).trans q;have ne:∀{c:Wy} {o:HO},H1 c=Wb o->(u=o->False)->c≠p:=λq n z=>n<|Z4<|h.symm.trans<|z▸q;exact⟨λc o n q=>k (e.kp c o n q)<|ag q h0,λc ps q=>(e.tb c ps q).imp λx z=>k z<|ag q h0,λg=>(e.tg g).mv (λx x q=>k q (ne q λz=>sP z a.noTbl)) (λx x q=>k q (ne q λz=>sQ a z)) λP x q=>(Decidable.em<|P=p).elim (λz=>nomatch (VP z).symm.trans q) λn=>(VQ n).symm.trans q⟩
end
def NT(F:Hp):Prop:=∀b ps,F b≠Wb (.tbl ps)
def iW(h:NT F)(n:fI o):NT (aB F p o):=λb ps q=>by
 by_cases e:b=p
 ·subst e;rw[ae]at q;cases q;exact n
 ·rw[ah e]at q;exact h b ps q
structure Rp(α:Type) where
 rel:Hp->V->α->Prop
 mono:∀{H H':Hp} {v:V} {a:α},aL H H'->rel H v a->rel H' v a
def Paired.imp2{α β:Type}{F G:α->β->Prop}(h:∀a b,F a b->G a b):∀{l:List α} {m:List β},Paired F l m->Paired G l m:=λp=>Paired.mapP p h
def Paired.setB{α β:Type}{F:α->β->Prop}{x:α}{y:β}(h:F x y):∀{l:List α} {m:List β} (i:Nat),Paired F l m->Paired F (l.set i x) (m.set i y):=by
 intro l m i p;induction p generalizing i with
 |nil=>exact .nil
 |cons r t ih =>
  cases i with
  |zero=>exact .cons h t
  |succ i=>exact .cons r<|ih i
def Paired.app{α β:Type}{F:α->β->Prop}:∀{l l':List α} {m m':List β},Paired F l m->Paired F l' m'->Paired F (l++l') (m++m'):=λp s=>by
 induction p with
 |nil=>exact s
 |cons r _ ih=>exact .cons r ih
def Paired.takeB{α β:Type}{F:α->β->Prop}:∀{l:List α} {m:List β} (n:Nat),Paired F l m->Paired F (l.take n) (m.take n):=by
 intro l m n p;induction p generalizing n with
 |nil=>cases n<;>exact .nil
 |cons r t ih =>
  cases n with
  |zero=>exact .nil
  |succ n=>exact .cons r<|ih n
def Paired.dropB{α β:Type}{F:α->β->Prop}:∀{l:List α} {m:List β} (n:Nat),Paired F l m->Paired F (l.drop n) (m.drop n):=by
 intro l m n p;induction p generalizing n with
 |nil=>cases n<;>exact .nil
 |cons r t ih =>
  cases n with
  |zero=>exact .cons r t
  |succ n=>exact ih n
def a7:Rp Int:=⟨λx v a=>v=.int a,λx h=>h⟩
def aX:Rp Bool:=⟨λx v a=>v=.bl a,λx h=>h⟩
def b8{α:Type}(r:Rp α):Rp (Option α):=⟨λH v a=>match a with|none=>v=.non|some x=>r.rel H v x,λ{_ _ _ a} e h=>by
 cases a with
 |none=>exact h
 |some x=>exact r.mono e h⟩
def aL.rd(e:aL H H')(h:Rd H a u):Rd H' a u:=by
 rcases h with h|zr1_
 ·exact .inl<|e _ _ h
 ·obtain⟨o,h⟩:=zr1_;exact .inr ⟨o,e _ _ h⟩
def rL{α:Type}(r:Rp α):Rp (List α):=⟨λH v xs=>∃p vs,v=.ref p/\Rd H p (.lst vs)/\Paired (r.rel H) vs xs,λe ⟨p,vs,h1,h2,h3⟩=>(eB p vs h1 (e.rd h2)<|Paired.imp2 (λx x q=>r.mono e q) h3)⟩
def rT1{α:Type}(r:Rp α):Rp α:=⟨λH v x=>∃p a,v=.ref p/\H p=Wb (.tup [a])/\r.rel H a x,λe ⟨p,a,h1,h2,h3⟩=>(eB p a h1 (e _ _ h2)<|r.mono e h3)⟩
def ga{α β:Type}(r:Rp α)(s:Rp β):Rp (α×β):=⟨λH v x=>∃p a b,v=.ref p/\H p=Wb (.tup [a,b])/\r.rel H a x.1/\s.rel H b x.2,
 λe ⟨p,a,b,h1,h2,h3,h4⟩=>⟨p,a,b,h1,e _ _ h2,r.mono e h3,s.mono e h4⟩⟩
def qp{α β γ:Type}(r:Rp α)(s:Rp β)(t:Rp γ):Rp (α×β×γ):=⟨λH v x=>∃p a b c,v=.ref p/\H p=Wb (.tup [a,b,c])/\r.rel H a x.1/\s.rel H b x.2.1/\t.rel H c x.2.2,
 λe ⟨p,a,b,c,h1,h2,h3,h4,h5⟩=>⟨p,a,b,c,h1,e _ _ h2,r.mono e h3,s.mono e h4,t.mono e h5⟩⟩
abbrev cN{α:Type}(r:Rp α)(H:Hp):Key×V->Int×α->Prop:=λw k=>w.1=.inl k.1/\r.rel H w.2 k.2
def rD{α:Type}(r:Rp α):Rp (List<|Int×α):=⟨λH v kvs=>∃p ws,v=.ref p/\H p=Wb (.dK ws)/\Paired (cN r H) ws kvs,
 λe ⟨p,ws,h1,h2,h3⟩=>(eB p ws h1 (e _ _ h2)<|Paired.imp2 (λx x q=>⟨q.1,r.mono e q.2⟩) h3)⟩
def del(F:Hp)(p:Wy):Hp:=λb=>if b=p then Wc else F b
def b0(h:b≠p):del F p b=F b:=by unfold del;rw[VQ h]
def bR:del F p p=Wc:=by unfold del;rw[VP rfl]
set_option tactic.hygienic true in
def b7(h:del F p b=Wb o):b≠p/\F b=Wb o:=by
 unfold del at h;split at h
 ·cases h
 ·rename_i q;exact⟨q,h⟩
def Chg:HO->Prop
 |.lst _=>True
 |.dK _=>True
 |.dT _=>True
 |.ins _ _ _=>True
 |_=>False
def Flat{α:Type}(r:Rp α):Prop:=∀{F:Hp} {p:Wy} {o:HO} {v:V} {a:α},F p=Wb o->Chg o->r.rel F v a->r.rel (del F p) v a
def cn:Flat a7:=λx x h=>h
def jN{α:Type}{r:Rp α}(f:Flat r):Flat (b8 r):=λ{_ _ _ _ a} h c q=>by
 cases a with
 |none=>exact q
 |some x=>exact f h c q
def tup_del(h:F p=Wb o)(c:Chg o)(q:F a=Wb (.tup xs)):del F p a=Wb (.tup xs):=by
 rw[b0]
 ·exact q
 ·rintro rfl;rw[h]at q;cases q;exact c
def yg{α β γ:Type}{r:Rp α}{s:Rp β}{t:Rp γ}(f:Flat r)(g:Flat s)(k:Flat t):Flat (qp r s t) :=
 λh c ⟨p,a,b,d,h1,h2,h3,h4,h5⟩=>⟨p,a,b,d,h1,tup_del h c h2,f h c h3,g h c h4,k h c h5⟩
def mH(K:Z1):Rp (List Int):=⟨λH v xs=>∃p vs,v=.ref p/\dj K H p vs/\Paired (a7.rel H) vs xs,λe ⟨p,vs,h1,h2,h3⟩=>(eB p vs h1 (e.seq h2)<|Paired.imp2 (λx x q=>a7.mono e q) h3)⟩
structure Sq(K:Z1){α:Type}(rl:Rp (List α))(r:Rp α):Prop where
 get:∀{H v xs},rl.rel H v xs->∃p vs,v=.ref p/\dj K H p vs/\Paired (r.rel H) vs xs
def aJ{K:Z1}{α:Type}{r:Rp α}:Sq K (rL r) r:=⟨λ⟨p,vs,h1,h2,h3⟩=>(eB p vs h1 (.inl h2) h3)⟩
def sq_s{K:Z1}:Sq K (mH K) a7:=⟨λh=>h⟩
inductive Slot:Type 1 where
 |any
 |fr {α:Type} (r:Rp α) (a:α)
 |ol {α:Type} (r:Rp α) (φ:ZJ) (xs:List α)
 |od {α:Type} (r:Rp α) (φ:ZJ) (kvs:List (Int×α))
abbrev tRel{α:Type}(r:Rp α)(H:Hp):List Key×V->(Int×Int)×α->Prop:=λw k=>w.1=[.inl k.1.1,.inl k.1.2]/\r.rel H w.2 k.2
structure NwL(H0 F:Hp)(us:List V)(ZZ:ZX):Prop where
 pr:Paired (λv row=>∃q vs,v=.ref q/\F q=Wb (.lst vs)/\Paired (a7.rel F) vs row) us ZZ
 nd:us.Nodup
 nw:∀q,V.ref q∈us->H0 q=Wc
def NwL.mono(e:aL F F')(h:NwL H0 F us ZZ):NwL H0 F' us ZZ :=
 ⟨Paired.imp2 (λ_ _ ⟨q,vs,h1,h2,h3⟩=>⟨q,vs,h1,e _ _ h2,Paired.imp2 (λx x y=>y) h3⟩) h.pr,h.nd,h.nw⟩
def Slot.own:Slot->Bool
 |.ol _ _ _=>Wd
 |.od _ _ _=>Wd
 |_=>We
def jj:Wy->Prop:=λx=>True
def fR(H0 F H:Hp):Slot->Option V->Prop
 |.any,_=>True
 |.fr r a,o=>∃v,o=Wb v/\r.rel F v a
 |.ol r φ xs,o=>∃p vs,o=Wb (.ref p)/\φ p/\H0 p=Wc/\F p=Wc/\H p=Wb (.lst vs)/\Paired (r.rel F) vs xs
 |.od r φ kvs,o=>∃p ws,o=Wb (.ref p)/\φ p/\H0 p=Wc/\F p=Wc/\H p=Wb (.dK ws)/\Paired (cN r F) ws kvs
def zC:Option HO->Prop
 |none=>True
 |some (.tup _)=>True
 |some _=>False
def nB(h:o=Wc):zC o:=h▸trivial
def Bp(z:zC o)(e:o=Wb u)(h:Own u):False:=by subst e;cases u<;>first|exact z|exact h
def Sm.un[Kn:Kon](e:Sm H H')(h:zC (H' l)):zC (H l):=by
 cases q:H l with
 |none=>trivial
 |some o =>
  cases o with
  |tup _=>trivial
  |tbl ps=>obtain⟨m,z⟩:=e.tb l ps q;rw[z]at h;exact h
  |_=>have z:=e.kp l _ (by trivial) q;rw[z]at h;exact h
def cz{σ:St}{i:Nat}{B:Type}{q1 q2 q3 q4 q5:Wy->B->Prop}{Q:Prop}(h:∃o,σ[i]?=Wb o/\∃p w,o=Wb (V.ref p)/\q1 p w/\q2 p w/\q3 p w/\q4 p w/\q5 p w)(f:∀p w,σ[i]?=Wb (Wb<|V.ref p)->q1 p w->q2 p w->q3 p w->q4 p w->q5 p w->Q):Q:=bN h λo a ⟨p,w,e,a1,a2,a3,a4,a5⟩=>f p w (e▸a) a1 a2 a3 a4 a5
structure Fc where
 H0:Hp
 F0:Hp
 L:Hp
structure Fr[Kn:Kon](C:Fc)(F H:Hp):Prop where
 keep:Sm C.H0 H
 low:aL C.L F
 sub:aL F H
 base:∀b o,F b=Wb o->C.F0 b=Wb o\/zC (C.H0 b)
 nt:NT F
 tg:TbG H
structure SR[Kn:Kon](C:Fc)(F:Hp)(Γ:List Slot)(σ:St)(H:Hp):Prop extends Fr C F H where
 len:σ.length=Γ.length
 at_:∀(i:Nat) s,Γ[i]?=Wb s->∃o,σ[i]?=Wb o/\fR C.H0 F H s o
 inj:∀(i j:Nat) s t p,Γ[i]?=Wb s->Γ[j]?=Wb t->s.own=Wd->t.own=Wd->σ[i]?=Wb (Wb<|.ref p)->σ[j]?=Wb (Wb<|.ref p)->i=j
structure Ext[Kn:Kon](F H F' H':Hp):Prop where
 hh:Sm H H'
 ff:aL F F'
 sub:aL F' H'
 nw:∀b o,F' b=Wb o->F b=Wb o\/zC (H b)
 nt:NT F->NT F'
section
variable [Kn:Kon]
def Ext.refl(h:aL F H):Ext F H F H:=⟨Sm.refl _,aL.refl _,h,λx x q=>.inl q,λz=>z⟩
def Ext.trans(a:Ext F H F1 H1)(b:Ext F1 H1 F2 H2):Ext F H F2 H2:=⟨a.hh.trans b.hh,a.ff.trans b.ff,b.sub,λc o h=>by
 rcases b.nw c o h with q|q
 ·exact a.nw c o q
 ·exact .inr<|a.hh.un q,λz=>b.nt<|a.nt z⟩
def Ext.new{F H:Hp}{p:Wy}{o:HO}(h:aL F H)(hp:H p=Wc)(n:autoParam (fI o) a4q._auto_1):Ext F H (aB F p o) (aB H p o) :=
 ⟨pc hp n,aE<|h.free hp,λb u q=>by
  by_cases e:b=p
  ·subst e;rw[ae]at q ⊢;exact q
  ·rw[ah e]at q ⊢;exact h b u q,λb u q=>by
  by_cases e:b=p
  ·subst e;exact .inr (nB hp)
  ·rw[ah e]at q;exact .inl q,λz=>iW z n⟩
def Ext.newH{F H:Hp}{p:Wy}{o:HO}(h:aL F H)(hp:H p=Wc)(n:autoParam (fI o) a4q._auto_1):Ext F H F (aB H p o):=⟨pc hp n,aL.refl _,h.trans<|aE hp,λx x q=>.inl q,λz=>z⟩
def Fr.grow(f:Fr C F H)(e:Ext F H F' H'):Fr C F' H':=⟨f.keep.trans e.hh,f.low.trans e.ff,e.sub,λb o h=>by
 rcases e.nw b o h with q|q
 ·exact f.base b o q
 ·exact .inr<|f.keep.un q,e.nt f.nt,e.hh.tg f.tg⟩
def none_of{α:Type _}{o:Option α}(h:∀w,o=Wb w->False):o=Wc:=by
 cases o with
 |none=>rfl
 |some w=>exact(h w rfl).elim
def fR.mov(h:fR H0 F H s o)(lo:aL F F')(k:∀p u,o=Wb (.ref p)->s.own=Wd->F p=Wc->H p=Wb u->Own u->F' p=Wc/\H' p=Wb u):fR H0 F' H' s o:=by
 cases s with
 |any=>trivial
 |fr r a=>exact bN h λv h1 h2=>aD v h1<|r.mono lo h2
 |ol r φ xs=>exact oq26 h λp vs h1 h0 h2 h3 h4 h5=>tZ (k p _ h1 rfl h3 h4 trivial) λa b=>⟨p,vs,h1,h0,h2,a,b,(Paired.imp2 (λx x q=>r.mono lo q) h5)⟩
 |od r φ kvs=>exact oq26 h λp ws h1 h0 h2 h3 h4 h5=>tZ (k p _ h1 rfl h3 h4 trivial) λa b=>⟨p,ws,h1,h0,h2,a,b,(Paired.imp2 (λx x q=>⟨q.1,r.mono lo q.2⟩) h5)⟩
def fR.grow(e:Ext F H F' H')(h:fR H0 F H s o):fR H0 F' H' s o:=h.mov e.ff λp x x x h1 h2 hu=>⟨none_of λw q=>(e.nw p w q).elim (λz=>nomatch h1.symm.trans z) λz=>Bp z h2 hu,e.hh.kp _ _ hu.noTbl h2⟩
section
variable {C:Fc}{F H F' H':Hp}{Γ:List Slot}{σ:St}
def SR.grow(S:SR C F Γ σ H)(e:Ext F H F' H'):SR C F' Γ σ H':=⟨S.toFr.grow e,S.len,λi s h=>by obtain⟨o,h1,h2⟩:=S.at_ i s h;exact(aD o h1<|h2.grow e),S.inj⟩
def SR.fr{α:Type}{r:Rp α}{a:α}{i:Nat}(S:SR C F Γ σ H)(h:Γ[i]?=Wb (.fr r a)):∃v,σ[i]?=Wb (Wb v)/\r.rel F v a:=by obtain⟨o,h1,v,rfl,h2⟩:=S.at_ i _ h;exact(aD v h1 h2)
def jr{α:Type _}{l:List α}{x:α}(h:i<l.length):(l.set i x)[i]?=Wb x:=N5 h
def bM{α:Type _}{l:List α}{x:α}(h:i≠j):(l.set i x)[j]?=l[j]?:=P9 h
def lK{α:Type _}{l:List α}{x y:α}(e:i=j)(hl:i<l.length)(h:(l.set i x)[j]?=Wb y):x=y:=by subst e;exact Z4<|(jr hl).symm.trans h
def h9{α:Type _}{l:List α}{x y:α}{Q:Prop}(h:(l.set i x)[j]?=Wb y)(f:i=j->x=y->i<l.length->Q)(g:i≠j->l[j]?=Wb y->Q):Q:=(Decidable.em<|i=j).elim (λe=>have hl:i<l.length:=by rw[e,<- T1];exact(Z6.mp h).1
 f e (lK e hl h) hl) λn=>g n<|(bM n).symm.trans h
def get_set{α:Type _}{l:List α}{x y:α}(h:(l.set i x)[j]?=Wb y):(i=j/\x=y/\i<l.length)\/(i≠j/\l[j]?=Wb y):=h9 h (λa b c=>.inl ⟨a,b,c⟩) λa b=>.inr ⟨a,b⟩
def SR.pt(i:Nat)(S:SR C F Γ σ H)(fr:Fr C F' H')(k:∀(j:Nat) t,i≠j->Γ[j]?=Wb t->∃o,σ[j]?=Wb o/\fR C.H0 F' H' t o)(h:fR C.H0 F' H' s v)(np:s.own=Wd->∀p,v=Wb (.ref p)->∀(j:Nat) t,i≠j->Γ[j]?=Wb t->t.own=Wd->σ[j]?=Wb (Wb<|.ref p)->False):SR C F' (Γ.set i s) (σ.set i v) H':=by
 have lt:i<Γ.length->i<σ.length:=λl=>Nat.lt_of_lt_of_eq l S.len.symm;exact⟨fr,by rw[T1,T1];exact S.len,λj t q=>h9 q (λe1 e2 l=>aD v (e1▸jr (lt l))<|e2▸h) λn q=>bN (k j t n q) λo h1 h2=>aD o ((bM n).trans h1) h2,
  λj m a t p q1 q2 o1 o2 e1 e2=>h9 q1 (λa1 a2 l=>h9 q2 (λb1 x x=>a1.symm.trans b1) λn q2=>(np (a2▸o1) p (lK a1 (lt l) e1) m t n q2 o2<|(bM n).symm.trans e2).elim) λn1 q1=>h9 q2 (λb1 b2 l=>(np (b2▸o2) p (lK b1 (lt l) e2) j a n1 q1 o1<|(bM n1).symm.trans e1).elim) λn2 q2=>S.inj j m a t p q1 q2 o1 o2 ((bM n1).symm.trans e1)<|(bM n2).symm.trans e2⟩
def yh{α:Type _}{l:List α}{a:α}(h:l[i]?=Wb a):l.set i a=l:=by
 apply N0;intro j;by_cases e:i=j
 ·subst e;rw[jr (Z6.mp h).1,h]
 ·rw[bM e]
def SR.pk(S:SR C F Γ σ H)(hi:Γ[i]?=Wb s)(ho:s'.own=Wd->s.own=Wd)(e1:σ[i]?=Wb o)(fr:Fr C F' H')(k:∀(j:Nat) t,i≠j->Γ[j]?=Wb t->∃o,σ[j]?=Wb o/\fR C.H0 F' H' t o)(h:fR C.H0 F' H' s' o):SR C F' (Γ.set i s') σ H' :=
 yh e1▸S.pt i fr k h λy p z j t n q o2 e2=>n<|S.inj i j s t p hi q (ho y) o2 (z▸e1) e2
def SR.mvAt{j:Nat}(S:SR C F Γ σ H)(q:Γ[j]?=Wb t)(lo:aL F F')(k:∀p u,t.own=Wd->σ[j]?=Wb (Wb<|.ref p)->F p=Wc->H p=Wb u->Own u->F' p=Wc/\H' p=Wb u):∃o,σ[j]?=Wb o/\fR C.H0 F' H' t o:=bN (S.at_ j t q) λo h1 h2=>aD o h1 (h2.mov lo λp u e ow f h ou=>k p u ow (e▸h1) f h ou)
def SR.oth{i j:Nat}(S:SR C F Γ σ H)(hi:Γ[i]?=Wb s)(ho:s.own=Wd)(hp:σ[i]?=Wb (Wb<|.ref p))(n:i≠j)(q:Γ[j]?=Wb t)(o:t.own=Wd)(e:σ[j]?=Wb (Wb<|.ref p')):p'≠p:=λz=>n<|S.inj i j s t p hi q ho o hp<|z▸e
def SR.setF{α:Type}{r:Rp α}{a:α}(i:Nat)(S:SR C F Γ σ H)(h:r.rel F v a):SR C F (Γ.set i<|.fr r a) (σ.set i<|some v) H:=S.pt i S.toFr (λj t x q=>S.at_ j t q) ⟨v,rfl,h⟩ λz=>nomatch z
def sR(hs:s.own=Wd)(h:fR H0 F H s (Wb<|.ref p)):∃u,H p=Wb u/\Own u:=by
 cases s with
 |any=>cases hs
 |fr r a=>cases hs
 |ol r φ xs=>obtain⟨p',vs,h1,_,_,_,h4,_⟩:=h;cases h1;exact(aD _ h4 trivial)
 |od r φ kvs=>obtain⟨p',vs,h1,_,_,_,h4,_⟩:=h;cases h1;exact(aD _ h4 trivial)
def SR.np{j:Nat}(S:SR C F Γ σ H)(hp:H p=Wc)(q:Γ[j]?=Wb t)(o:t.own=Wd)(e:σ[j]?=Wb (Wb<|.ref p)):False:=bN (S.at_ j t q) λo' h1 h2=>bN (sR o<|Z4 (h1.symm.trans e)▸h2) λx z x=>nomatch hp.symm.trans z
def yi(hs:s.own=Wd)(h:fR H0 F (aB H p u) s (Wb<|.ref p)):Own u:=bN (sR hs h) λx e1 e2=>Z4 (ae.symm.trans e1)▸e2
def SR.setO(i:Nat)(S:SR C F Γ σ H)(hp:H p=Wc)(hs:s.own=Wd)(h:fR C.H0 F (aB H p u) s (Wb<|.ref p)):SR C F (Γ.set i s) (σ.set i<|some<|.ref p) (aB H p u):=by have e:Ext F H F (aB H p u):=Ext.newH S.sub hp (yi hs h).noTbl;exact S.pt i (S.toFr.grow e) (λj t x q=>(S.grow e).at_ j t q) h λx p' z j t x q o e=>S.np hp q o<|e.trans<|congrArg Wb z.symm
def SR.chg(S:SR C F Γ σ H)(hi:Γ[i]?=Wb s)(ho:s.own=Wd)(hp:σ[i]?=Wb (Wb<|.ref p))(h0:C.H0 p=Wc)(hF:F p=Wc)(hs:s'.own=Wd)(h:fR C.H0 F (aB H p u) s' (Wb<|.ref p)):
  SR C F (Γ.set i s') σ (aB H p u):=by
 obtain⟨o,z1,z2⟩:=S.at_ i s hi;obtain⟨u0,hu0,ou0⟩:=sR ho<|Z4 (z1.symm.trans hp)▸z2;have ou:=yi hs h;exact S.pk hi (λx=>ho) hp ⟨sm_chg S.keep h0 hu0 ou0 ou,S.low,λb o q=>ci (ag q hF)<|S.sub b o q,S.base,S.nt,S.tg.pokO ou.noTbl hu0 ou0⟩ (λj t n q=>S.mvAt q (aL.refl _) λp' x o e f hu x=>⟨f,ci (S.oth hi ho hp n q o e) hu⟩) h
end
inductive SubS:Slot->Slot->Prop where
 |any {s:Slot}:SubS s .any
 |rfl {s:Slot}:SubS s s
 |frz {α:Type} {r:Rp α} {φ:ZJ} {xs:List α}:SubS (.ol r φ xs) (.fr (rL r) xs)
 |frd {α:Type} {r:Rp α} {φ:ZJ} {kvs:List (Int×α)}:SubS (.od r φ kvs) (.fr (rD r) kvs)
 |ttD {α:Type} {r:Rp α} {φ:ZJ} {kvs:List (Int×α)}:SubS (.od r φ kvs) (.od r jj kvs)
 |tt {α:Type} {r:Rp α} {φ:ZJ} {xs:List α}:SubS (.ol r φ xs) (.ol r jj xs)
inductive SubL:List Slot->List Slot->Prop where
 |nil:SubL [] []
 |cons {s s':Slot} {Γ Γ':List Slot}:SubS s s'->SubL Γ Γ'->SubL (s ::Γ) (s' ::Γ')
def fj(h:SubL Γ Γ'):SubL (s ::Γ) (s ::Γ'):=.cons .rfl h
def aQ(h:SubL Γ Γ'):SubL (s ::Γ) (.any ::Γ'):=.cons .any h
def SR.freeze(S:SR C F Γ σ H)(hi:Γ[i]?=Wb s)(p:Wy)(u:HO)(s':Slot)(hs':s'.own=We)(hs:s.own=Wd)(e1:σ[i]?=Wb (Wb<|.ref p))(e2:C.H0 p=Wc)(e3:F p=Wc)(e4:H p=Wb u)(e5:fR C.H0 (aB F p u) H s' (Wb<|.ref p))(ou:Own u):SR C (aB F p u) (Γ.set i s') σ H :=
 S.pk hi (λx=>hs) e1 ⟨S.keep,S.low.trans<|aE e3,λb o q=>gZ q (λa b=>a▸b▸e4) λx q=>S.sub b o q,λb o q=>gZ q (λe x=>.inr<|nB<|e▸e2) λx q=>S.base b o q,iW S.nt ou.noTbl,S.tg⟩ (λj t n q=>S.mvAt q (aE e3) λp' x o e f hu x=>⟨(ah<|S.oth hi hs e1 n q o e).trans f,hu⟩) e5
def SR.weak1(S:SR C F Γ σ H)(hi:Γ[i]?=Wb s)(h:SubS s s'):∃F',aL F F'/\SR C F' (Γ.set i s') σ H:=by
 have stay:∀s',(∀o,fR C.H0 F H s o->fR C.H0 F H s' o)->(s'.own=Wd->s.own=Wd)->∃F',aL F F'/\SR C F' (Γ.set i s') σ H:=λs' h1 h2=>bN (S.at_ i s hi) λo z1 z2=>aD F (aL.refl _)<|S.pk hi h2 z1 S.toFr (λj t x q=>S.at_ j t q)<|h1 o z2;cases h with
 |any=>exact stay _ (λx x=>trivial) (λz=>by cases z)
 |rfl=>exact stay _ (λx z=>z) λz=>z
 |tt=>exact stay _ (λ_ ⟨p,vs,a,_,b⟩=>⟨p,vs,a,trivial,b⟩) λz=>z
 |ttD=>exact stay _ (λ_ ⟨p,vs,a,_,b⟩=>⟨p,vs,a,trivial,b⟩) λz=>z
 |frz =>refine cz (S.at_ i _ hi) λp vs h1 h2 h3 h4 h5 h6=>?_;exact(aD _ (aE h4)<|S.freeze hi p _ _ rfl rfl h1 h3 h4 h5 ⟨_,rfl,p,vs,rfl,Rd.of ae,Paired.imp2 (λx x z=>Rp.mono _ (aE h4) z) h6⟩ trivial)
 |frd =>refine cz (S.at_ i _ hi) λp vs h1 h2 h3 h4 h5 h6=>?_;exact(aD _ (aE h4)<|S.freeze hi p _ _ rfl rfl h1 h3 h4 h5 ⟨_,rfl,p,vs,rfl,ae,Paired.imp2 (λx x z=>⟨z.1,Rp.mono _ (aE h4) z.2⟩) h6⟩ trivial)
def SR.weakL(h:SubL Γ Γ'):∀(Δ:List Slot) {F:Hp},SR C F (Δ++Γ) σ H->∃F',aL F F'/\SR C F' (Δ++Γ') σ H:=by
 induction h with
 |nil=>exact λΔ F S=>(aD F (aL.refl _) S)
 |@cons s s' Γ Γ' h1 _ ih =>
  intro Δ F S;obtain⟨F1,e1,S1⟩:=S.weak1 (i:=Δ.length) (s:=s) (s':=s') (by simp) h1;have e:(Δ++s ::Γ).set Δ.length s'=(Δ++[s'])++Γ:=by simp
  rw[e]at S1;obtain⟨F2,e2,S2⟩:=ih (Δ++[s']) S1;exact(aD F2 (e1.trans e2) (by simpa using S2))
def SR.weak(S:SR C F Γ σ H)(h:SubL Γ Γ'):∃F',aL F F'/\SR C F' Γ' σ H:=SR.weakL h [] S
def SR.lower(S:SR C F Γ σ H):SR {C with L:=F} F Γ σ H:=⟨⟨S.keep,aL.refl _,S.sub,S.base,S.nt,S.tg⟩,S.len,S.at_,S.inj⟩
def SR.raise(S:SR {C with L:=F} F1 Γ σ H)(h:aL C.L F):SR C F1 Γ σ H:=⟨⟨S.keep,h.trans S.low,S.sub,S.base,S.nt,S.tg⟩,S.len,S.at_,S.inj⟩
def Fr.raise(S:Fr {C with L:=F} F1 H)(h:aL C.L F):Fr C F1 H:=⟨S.keep,h.trans S.low,S.sub,S.base,S.nt,S.tg⟩
end
end L2

namespace Pu
def bs{α β:Type}{a:α}{f:α->Option β}:(Wb a).bind f=f a:=Eq.trans (fE a f)<|Eq.refl _
def mI(i j:Int):Option Int:=if 0<j/\j<2^64 then Wb (i/j) else Wc
def fmod(i j:Int):Option Int:=if 0<j then Wb (i%j) else Wc
def mul(i j:Int):Option Int:=if (-(2^64)<i/\i<2^64)\/(-(2^64)<j/\j<2^64) then Wb (i*j) else Wc
def pow(i j:Int):Option Int:=if 0<=j/\j<=1000000/\i.natAbs<2^64 then Wb (i^j.toNat) else Wc
def mn(i j:Int):Int:=if j<i then j else i
def mx(i j:Int):Int:=if j > i then j else i
def ab(i:Int):Int:=if i<0 then -i else i
def ofb(b:Bool):Int:=if b then 1 else 0
abbrev at_{α:Type}(xs:List α)(i:Int):Option α:=L2.xW xs i
def ln{α:Type}(xs:List α):Int:=xs.length
def cut{α:Type}(xs:List α)(lo hi:ZK):List α:=(xs.drop<|HT.sx xs.length 0 lo).take (HT.sx xs.length xs.length hi-HT.sx xs.length 0 lo)
def app{α:Type}(xs:List α)(a:α):Option (List α):=if xs.length<16777216 then Wb (xs++[a]) else Wc
def CY{α:Type}(xs ys:List α):Option (List α):=if xs.length+ys.length<=16777216 then Wb (xs++ys) else Wc
def nats(n:Nat):List Int:=(Z9 n).map λ(i:Nat)=>(i:Int)
def qA(j:Int):Option (List Int):=if -(2^62)<=j/\j<2^62 then Wb (nats j.toNat) else Wc
def uD(i j:Int):Option (List Int):=if -(2^62)<=i/\i<2^62/\-(2^62)<=j/\j<2^62 then Wb ((Z9 (j-i).toNat).map λ(k:Nat)=>i+(k:Int)) else Wc
def sS{α:Type}(xs:List α):List (Int×α):=(xs.zipIdx).map λp=>((p.2:Int),p.1)
def find{α:Type}(kvs:List (Int×α))(k:Int):Option α:=(kvs.find? λkv=>decide<|kv.1=k).map (·.2)
def put{α:Type}(kvs:List (Int×α))(k:Int)(v:α):List (Int×α) :=
 if (kvs.any λkv=>decide<|kv.1=k)=Wd then kvs.map (λkv=>if kv.1=k then (kv.1,v) else kv) else kvs++[(k,v)]
def qZ{β α:Type}(f:β->Option α):List β->Option (List α)
 |[]=>Wb []
 |x ::xs=>(f x).bind λa=>(qZ f xs).bind λas=>Wb (a ::as)
def cp{β α:Type}(t:β->Option Bool)(f:β->Option α):List β->Option (List α)
 |[]=>Wb []
 |x ::xs=>(t x).bind λb=>if b=Wd then (f x).bind λa=>(cp t f xs).bind λas=>Wb (a ::as) else cp t f xs
def comp{β α:Type}(f:β->Option α)(xs:List β):Option (List α):=if xs.length<=16777216 then qZ f xs else Wc
def bJ{β α:Type}(t:β->Option Bool)(f:β->Option α)(xs:List β):Option (List α):=if xs.length<=16777216 then cp t f xs else Wc
inductive Ctl(S R:Type) where
 |nx (s:S)|bk (s:S)|rt (r:R)
def bB{S β:Type}(f:S->β->Option S):List β->S->Option S
 |[],s=>Wb s
 |x ::xs,s=>(f s x).bind λs=>bB f xs s
def ig{S R β:Type}(f:S->β->Option (Ctl S R)):List β->S->Option (Ctl S R)
 |[],s=>Wb<|.nx s
 |x ::xs,s=>(f s x).bind λc=>match c with
  |.nx s=>ig f xs s
  |.bk s=>Wb<|.nx s
  |.rt r=>Wb<|.rt r
def nC{S:Type}(t:S->Option Bool)(f:S->Option S):Nat->S->Option S
 |0,_=>Wc
 |n+1,s=>(t s).bind λb=>if b=Wd then (f s).bind λs=>nC t f n s else Wb s
def re{S β:Type}{f:S->β->Option S}{x:β}{xs:List β}{s:S}:bB f (x ::xs) s=(f s x).bind λs=>bB f xs s:=rfl
def zD{S R β:Type}{f:S->β->Option (Ctl S R)}{x:β}{xs:List β}{s:S}:ig f (x ::xs) s=(f s x).bind λc=>match c with
  |.nx s=>ig f xs s
  |.bk s=>Wb<|.nx s
  |.rt r=>Wb (.rt r):=rfl
def uE{S:Type}{t:S->Option Bool}{f:S->Option S}{s:S}:nC t f (n+1) s=(t s).bind λb=>if b=Wd then (f s).bind λs=>nC t f n s else Wb s:=rfl
def wG{β α:Type}{f:β->Option α}{x:β}{xs:List β}:qZ f (x ::xs)=(f x).bind λa=>(qZ f xs).bind λas=>Wb (a ::as):=rfl
def andThen{S R T:Type}(o:Option (Ctl S R))(k:S->Option T)(e:R->T):Option T:=o.bind λc=>match c with
 |.nx s=>k s
 |.bk s=>k s
 |.rt r=>Wb<|e r
end Pu

namespace L2
open Pu
section
open PySem PySem.Spec PyProof.Rows
def a8{α β:Type}{o:Option α}{f:α->Option β}{b:β}(h:o.bind f=Wb b):∃a,o=Wb a/\f a=Wb b:=by
 cases o with
 |none=>cases h
 |some a=>exact(aD a rfl h)
variable [Kn:Kon]
section
variable (Γ:List Slot){α:Type}
def EV(t:TE)(o:Option α)(r:Rp α):Prop:=∀C F σ H Q a,SR C F Γ σ H->o=Wb a->(∀v F' H',Ext F H F' H'->r.rel F' v a->Q v H')->t σ H Q
def iR(t:TE)(o:Option (List α))(r:Rp α):Prop:=∀C F σ H Q xs,SR C F Γ σ H->o=Wb xs->(∀p vs F' H1,Ext F H F' H1->H1 p=Wc->Paired (r.rel F') vs xs->Q (.ref p) (aB H1 p<|.lst vs))->t σ H Q
def EVD(t:TE)(o:Option (List<|Int×α))(r:Rp α):Prop:=∀C F σ H Q kvs,SR C F Γ σ H->o=Wb kvs->(∀p ws F' H1,Ext F H F' H1->H1 p=Wc->Paired (cN r F') ws kvs->Q (.ref p) (aB H1 p<|.dK ws))->t σ H Q
def ET(t:TT)(o:Option Bool):Prop:=∀C F σ H Q b,SR C F Γ σ H->o=Wb b->(∀F' H',Ext F H F' H'->Q b H')->t σ H Q
structure Walks(J:It)(F:Hp){β:Type}(r:Rp β)(xs:List β):Prop where
 go:∀i H,aL F H->i<xs.length->J.go i H
 stop:∀H,aL F H->J.stop xs.length H
 yld:∀i H x H' F1,aL F H->i<xs.length->J.yld i H x H'->aL F F1->aL F1 H->∃F2 a,xs[i]?=Wb a/\Ext F1 H F2 H'/\r.rel F2 x a
def IV(t:TI)(o:Option (List α))(r:Rp α):Prop:=∀C F σ H R xs,SR C F Γ σ H->o=Wb xs->(∀J F' H',Ext F H F' H'->Walks J F' r xs->R J H')->t σ H R
def EO(t:TO)(o:Option (Option Int)):Prop:=∀C F σ H Q a,SR C F Γ σ H->o=Wb a->(∀F' H',Ext F H F' H'->Q a H')->t σ H Q
end
section
variable {Γ:List Slot}{α β γ:Type}{r:Rp α}{s:Rp β}{ta tb tc:TE}{oa:Option α}{ob:Option β}{K:Z1}
def ai(i:Nat)(h:Γ[i]?=Wb (.fr r a)):EV Γ (bf i) (Wb a) r:=by intro C F σ H Q a' S e k;cases e;obtain⟨v,h1,h2⟩:=S.fr h;exact⟨v,h1,k v F H (Ext.refl S.sub) h2⟩
def ev_c(h:∀F,r.rel F v a):EV Γ (tC v) (Wb a) r:=by intro C F σ H Q a' S e k;cases e;exact k v F H (Ext.refl S.sub)<|h F
def aq:EV Γ (tC<|.int n) (Wb n) a7:=ev_c λx=>rfl
def gz:EV Γ (tC<|.bl b) (Wb b) aX:=ev_c λx=>rfl
def gF:EV Γ (tC .non) (Wb Wc) (b8 r):=ev_c λx=>rfl
def EV.cast(h:EV Γ t o r)(e:o'=o):EV Γ t o' r:=e▸h
def cH(h:EV Γ t oa r):EV Γ t (oa.bind λa=>Wb<|some a) (b8 r):=by intro C F σ H Q a' S e k;obtain⟨a,e1,e2⟩:=a8 e;cases e2;exact h C F σ H Q a S e1 k
def mJ(h:EV Γ t o (b8 r)):EV Γ t (o.bind λa=>a) r:=by intro C F σ H Q a' S e k;obtain⟨a,e1,rfl⟩:=a8 e;exact h C F σ H Q _ S e1 k
def EV.two{q:V->V->Hp->Prop}(ha:EV Γ ta oa r)(hb:EV Γ tb ob s)(S:SR C F Γ σ H)(e1:oa=Wb a)(e2:ob=Wb b)(k:∀x y F' H',Ext F H F' H'->r.rel F' x a->s.rel F' y b->q x y H'):ta σ H λx H1=>tb σ H1 λy H2=>q x y H2 :=
 ha C F σ H _ a S e1 λx F1 H1 x1 r1=>hb C F1 σ H1 _ b (S.grow x1) e2 λy F2 H2 x2 r2=>k x y F2 H2 (x1.trans x2) (r.mono x2.ff r1) r2
def lL{f:α->β->Option γ}(hR:∀F H x y a b c Q,aL F H->r.rel F x a->s.rel F y b->f a b=Wb c->(∀v,t.rel F v c->Q v H)->R x y H Q)(ha:EV Γ ta oa r)(hb:EV Γ tb ob s):
  EV Γ (iQ R ta tb) (oa.bind λa=>ob.bind λb=>f a b) t:=by
 intro C F σ H Q c S e k;obtain⟨a,e1,e⟩:=a8 e;obtain⟨b,e2,e3⟩:=a8 e;exact EV.two ha hb S e1 e2 λx y F' H' x1 r1 r2=>hR F' H' x y a b c _ x1.sub r1 r2 e3 λv rv=>k v F' H' x1 rv
def uF{g:Int->Int->V}{f:Int->Int->γ}(hg:∀H i j,t.rel H (g i j) (f i j))(ha:EV Γ ta ox a7)(hb:EV Γ tb oy a7):EV Γ (iQ (uc g) ta tb) (ox.bind λa=>oy.bind λb=>Wb<|f a b) t :=
 lL (λF H x y a b c Q h r1 r2 e k=>by cases e;exact⟨a,b,r1,r2,k _<|hg F a b⟩) ha hb
def ev_i{Cn:Int->Int->Prop}{g:Int->Int->V}{f:Int->Int->Option γ}(hg:∀H i j c,f i j=Wb c->Cn i j/\t.rel H (g i j) c)(ha:EV Γ ta ox a7)(hb:EV Γ tb oy a7):
  EV Γ (iQ (rI Cn g) ta tb) (ox.bind λa=>oy.bind λb=>f a b) t :=
 lL (λF H x y a b c Q h r1 r2 e k=>by obtain⟨h1,h2⟩:=hg F a b c e;exact⟨a,b,r1,r2,h1,k _ h2⟩) ha hb
section
variable {ox oy:ZK}
def br(ha:EV Γ ta ox a7)(hb:EV Γ tb oy a7):EV Γ (iQ (uc λi j=>.int<|i+j) ta tb) (ox.bind λa=>oy.bind λb=>Wb<|a+b) a7:=uF (λx x x=>rfl) ha hb
def iw(ha:EV Γ ta ox a7)(hb:EV Γ tb oy a7):EV Γ (iQ (uc λi j=>.int<|i-j) ta tb) (ox.bind λa=>oy.bind λb=>Wb<|a-b) a7:=uF (λx x x=>rfl) ha hb
def ev_lt(ha:EV Γ ta ox a7)(hb:EV Γ tb oy a7):EV Γ (iQ (uc λi j=>.bl<|decide<|i<j) ta tb) (ox.bind λa=>oy.bind λb=>Wb<|decide<|a<b) aX:=uF (λx x x=>rfl) ha hb
def yj(ha:EV Γ ta ox a7)(hb:EV Γ tb oy a7):EV Γ (iQ (uc λi j=>.bl<|decide<|i<=j) ta tb) (ox.bind λa=>oy.bind λb=>Wb<|decide<|a<=b) aX:=uF (λx x x=>rfl) ha hb
def ev_gt(ha:EV Γ ta ox a7)(hb:EV Γ tb oy a7):EV Γ (iQ (uc λi j=>.bl<|decide<|j<i) ta tb) (ox.bind λa=>oy.bind λb=>Wb<|decide<|b<a) aX:=uF (λx x x=>rfl) ha hb
set_option tactic.hygienic true in
def iy(ha:EV Γ ta ox a7)(hb:EV Γ tb oy a7):EV Γ (iQ (rI z9 λi j=>.int<|i*j) ta tb) (ox.bind λa=>oy.bind λb=>mul a b) a7:=ev_i (λx i j c e=>by
 unfold mul at e;split at e
 ·rename_i h;cases e;exact⟨h,rfl⟩
 ·cases e) ha hb
set_option tactic.hygienic true in
def js(ha:EV Γ ta ox a7)(hb:EV Γ tb oy a7):EV Γ (iQ (rI (λx j=>0<j) λi j=>.int<|i%j) ta tb) (ox.bind λa=>oy.bind λb=>fmod a b) a7:=ev_i (λx i j c e=>by
 unfold fmod at e;split at e
 ·rename_i h;cases e;exact⟨h,rfl⟩
 ·cases e) ha hb
set_option tactic.hygienic true in
def iX(ha:EV Γ ta ox a7)(hb:EV Γ tb oy a7):EV Γ (iQ (rI (λx j=>0<j/\j<2^64) λi j=>.int<|i/j) ta tb) (ox.bind λa=>oy.bind λb=>mI a b) a7:=ev_i (λx i j c e=>by
 unfold mI at e;split at e
 ·rename_i h;cases e;exact⟨h,rfl⟩
 ·cases e) ha hb
set_option tactic.hygienic true in
def ev_pow(ha:EV Γ ta ox a7)(hb:EV Γ tb oy a7):EV Γ (iQ (rI CPow λi j=>.int<|i^j.toNat) ta tb) (ox.bind λa=>oy.bind λb=>pow a b) a7:=ev_i (λx i j c e=>by
 unfold pow at e;split at e
 ·rename_i h;cases e;exact⟨h,rfl⟩
 ·cases e) ha hb
def wH(ha:EV Γ ta ox a7):EV Γ (tUn (rU λi=>.int<|-i) ta) (ox.bind λa=>Wb<|-a) a7:=by intro C F σ H Q c S e k;obtain⟨a,e1,e⟩:=a8 e;cases e;exact ha C F σ H _ a S e1 λv F' H' x1 r1=>⟨a,r1,k _ F' H' x1 rfl⟩
end
def hE{f:α->β->Bool}(hf:∀H x y a b,r.rel H x a->s.rel H y b->ud x y=Wd/\decide (x=y)=f a b)(ha:EV Γ ta oa r)(hb:EV Γ tb ob s):EV Γ (iQ rEq ta tb) (oa.bind λa=>ob.bind λb=>Wb<|f a b) aX :=
 lL (λF H x y a b c Q h r1 r2 e k=>by cases e;obtain⟨h1,h2⟩:=hf F x y a b r1 r2;exact⟨h1,by rw[h2];exact k _ rfl⟩) ha hb
def jt{f:α->β->Bool}(hf:∀H x y a b,r.rel H x a->s.rel H y b->ud x y=Wd/\decide (x=y)=f a b)(ha:EV Γ ta oa r)(hb:EV Γ tb ob s):EV Γ (iQ rNe ta tb) (oa.bind λa=>ob.bind λb=>Wb<|!f a b) aX :=
 lL (λF H x y a b c Q h r1 r2 e k=>by cases e;obtain⟨h1,h2⟩:=hf F x y a b r1 r2;exact⟨h1,by rw[h2];exact k _ rfl⟩) ha hb
def ik(H:Hp)(x y:V)(a b:Int)(h1:a7.rel H x a)(h2:a7.rel H y b):ud x y=Wd/\decide (x=y)=decide (a=b):=by cases h1;cases h2;exact⟨rfl,by rw[V6];simp⟩
def sc_bb(H:Hp)(x y:V)(a b:Bool)(h1:aX.rel H x a)(h2:aX.rel H y b):ud x y=Wd/\decide (x=y)=decide (a=b):=by cases h1;cases h2;exact⟨rfl,by rw[V6];simp⟩
def sc_oi(H:Hp)(x y:V)(a:ZK)(b:Int)(h1:(b8 a7).rel H x a)(h2:a7.rel H y b):ud x y=Wd/\decide (x=y)=decide (a=Wb b):=by
 cases h2;cases a with
 |none=>cases h1;exact⟨rfl,by rw[V6];simp⟩
 |some i=>cases h1;exact⟨rfl,by rw[V6];simp⟩
def sc_oo(H:Hp)(x y:V)(a b:ZK)(h1:(b8 a7).rel H x a)(h2:(b8 a7).rel H y b):ud x y=Wd/\decide (x=y)=decide (a=b):=by
 cases a with
 |none =>
  cases h1;cases b with
  |none=>cases h2;exact⟨rfl,by rw[V6];simp⟩
  |some i=>cases h2;exact⟨rfl,by rw[V6];simp⟩
 |some j =>
  cases h1;cases b with
  |none=>cases h2;exact⟨rfl,by rw[V6];simp⟩
  |some i=>cases h2;exact⟨rfl,by rw[V6];simp⟩
def sT(ha:EV Γ ta o (b8 r))(hr:∀F a,¬ r.rel F .non a):EV Γ (iQ (λx y H Q=>y=.non/\Q (.bl<|decide<|x=.non) H) ta<|tC .non) (o.bind λa=>Wb a.isNone) aX:=by
 intro C F σ H Q c S e k;obtain⟨a,e1,e⟩:=a8 e;cases e;refine ha C F σ H _ a S e1 λv F' H' x1 r1=>⟨rfl,?_⟩;have:decide (v=.non)=a.isNone:=by
  cases a with
  |none=>cases r1;rfl
  |some x=>exact VW λz=>hr F' x (by subst z;exact r1)
 rw[this];exact k _ F' H' x1 rfl
def sU(ha:EV Γ ta o (b8 r))(hr:∀F a,¬ r.rel F .non a):EV Γ (iQ (λx y H Q=>y=.non/\Q (.bl<|!decide (x=.non)) H) ta<|tC .non) (o.bind λa=>Wb a.isSome) aX:=by
 intro C F σ H Q c S e k;obtain⟨a,e1,e⟩:=a8 e;cases e;refine ha C F σ H _ a S e1 λv F' H' x1 r1=>⟨rfl,?_⟩;have:(!decide (v=.non))=a.isSome:=by
  cases a with
  |none=>cases r1;rfl
  |some x=>show (!decide (v=.non))=Wd;rw[VW λz=>hr F' x (by subst z;exact r1)];rfl
 rw[this];exact k _ F' H' x1 rfl
def kJ(F:Hp)(a:Int):¬ a7.rel F .non a:=λh=>nomatch h
def Bq{g g':Int->Int->Bool}(ha:EV Γ ta ox a7)(hb:EV Γ tb oy a7)(hc:EV Γ tc oz a7):
  EV Γ (sv (uc λi j=>.bl<|g i j) (uc λi j=>.bl<|g' i j) ta tb tc) (ox.bind λa=>oy.bind λb=>if g a b=Wd then oz.bind λc=>Wb (g' b c) else Wb We) aX:=by
 intro C F σ H Q d S e k;obtain⟨a,e1,e⟩:=a8 e;obtain⟨b,e2,e⟩:=a8 e;refine EV.two ha hb S e1 e2 λx y F' H' x1 r1 r2=>⟨a,b,r1,r2,g a b,rfl,?_⟩;by_cases h:g a b=Wd
 ·rw[VP h]at e ⊢;obtain⟨c,e3,e⟩:=a8 e;cases e;exact hc C F' σ H' _ c (S.grow x1) e3 λz F2 H2 x2 r3=>⟨b,c,r2,r3,k _ F2 H2 (x1.trans x2) rfl⟩
 ·rw[VQ h]at e ⊢;cases e;exact k _ F' H' x1 rfl
section
variable {t u:TT}{o o':Option Bool}
def c5(h:EV Γ ta o aX):ET Γ (AJ ta) o:=λC F σ H Q b S e k=>h C F σ H _ b S e λv F' H' x1 r1=>(aD b r1<|k F' H' x1)
def gG(h:EV Γ ta o aX):ET Γ (tB ta) o:=λC F σ H Q b S e k=>h C F σ H _ b S e λv F' H' x1 r1=>(aD b r1<|k F' H' x1)
def sV(h:ET Γ t o)(h':ET Γ u o'):ET Γ (tAnd t u) (o.bind λb=>if b=Wd then o' else Wb We):=by
 intro C F σ H Q d S e k;obtain⟨a,e1,e⟩:=a8 e;refine h C F σ H _ a S e1 λF' H' x1=>?_;cases a with
 |true=>exact h' C F' σ H' _ d (S.grow x1) e λF2 H2 x2=>k F2 H2<|x1.trans x2
 |false=>cases e;exact k F' H' x1
def uG(h:ET Γ t o)(h':ET Γ u o'):ET Γ (tOr t u) (o.bind λb=>if b=Wd then Wb Wd else o'):=by
 intro C F σ H Q d S e k;obtain⟨a,e1,e⟩:=a8 e;refine h C F σ H _ a S e1 λF' H' x1=>?_;cases a with
 |true=>cases e;exact k F' H' x1
 |false=>exact h' C F' σ H' _ d (S.grow x1) e λF2 H2 x2=>k F2 H2<|x1.trans x2
def fk(h:ET Γ t o):ET Γ (tNot t) (o.bind λb=>Wb<|!b):=by intro C F σ H Q d S e k;obtain⟨a,e1,e⟩:=a8 e;cases e;exact h C F σ H _ a S e1 λF' H' x1=>k F' H' x1
def yk:ET Γ ye (Wb Wd):=λC F σ H Q b S e k=>by cases e;exact k F H<|Ext.refl S.sub
def om(sq:Sq K rl r)(h:EV Γ ta ol rl):ET Γ (tTru K ta) (ol.bind λxs=>Wb<|!xs.isEmpty):=by
 intro C F σ H Q d S e k;obtain⟨a,e1,e⟩:=a8 e;cases e;refine h C F σ H _ a S e1 λv F' H' x1 hv=>?_;obtain⟨p,vs,e2,h2,h3⟩:=sq.get hv;refine(aD (!vs.isEmpty) ?_ ?_)
 ·subst e2;exact .inl<|aD vs (x1.sub.seq h2) rfl
 ·have:(!vs.isEmpty)=!a.isEmpty:=by cases h3<;>rfl
  rw[this];exact k F' H' x1
def ev_not(h:EV Γ ta o aX):EV Γ (tNotV ta) (o.bind λb=>Wb<|!b) aX:=by intro C F σ H Q d S e k;obtain⟨a,e1,e⟩:=a8 e;cases e;exact h C F σ H _ a S e1 λv F' H' x1 r1=>(aD a r1<|k _ F' H' x1 rfl)
def Br(h:EV Γ ta o aX)(h':EV Γ tb o' aX):EV Γ (AC ta tb) (o.bind λb=>if b=Wd then o' else Wb We) aX:=by
 intro C F σ H Q d S e k;obtain⟨a,e1,e⟩:=a8 e;refine h C F σ H _ a S e1 λv F' H' x1 r1=>(aD a r1 ?_);cases a with
 |true=>exact h' C F' σ H' _ d (S.grow x1) e λw F2 H2 x2 r2=>k w F2 H2 (x1.trans x2) r2
 |false=>cases e;exact k _ F' H' x1 rfl
def ev_or(h:EV Γ ta o aX)(h':EV Γ tb o' aX):EV Γ (tOrV ta tb) (o.bind λb=>if b=Wd then Wb Wd else o') aX:=by
 intro C F σ H Q d S e k;obtain⟨a,e1,e⟩:=a8 e;refine h C F σ H _ a S e1 λv F' H' x1 r1=>(aD a r1 ?_);cases a with
 |true=>cases e;exact k _ F' H' x1 rfl
 |false=>exact h' C F' σ H' _ d (S.grow x1) e λw F2 H2 x2 r2=>k w F2 H2 (x1.trans x2) r2
def Bs(ht:ET Γ t o)(ha:EV Γ ta oa r)(hb:EV Γ tb oa' r):EV Γ (tIf t ta tb) (o.bind λb=>if b=Wd then oa else oa') r:=by
 intro C F σ H Q d S e k;obtain⟨a,e1,e⟩:=a8 e;refine ht C F σ H _ a S e1 λF' H' x1=>?_;cases a with
 |true=>exact ha C F' σ H' _ d (S.grow x1) e λw F2 H2 x2 r2=>k w F2 H2 (x1.trans x2) r2
 |false=>exact hb C F' σ H' _ d (S.grow x1) e λw F2 H2 x2 r2=>k w F2 H2 (x1.trans x2) r2
end
end
end
section
open PySem PySem.Spec PyProof.Rows
variable [Kn:Kon]
def wI{α:Type}{r:V->α->Prop}{xs:List α}{a:α}(p:Paired r vs xs)(h:xW xs i=Wb a):∃v,xW vs i=Wb v/\r v a:=by unfold xW at h ⊢;rw[p.length];obtain⟨j,e1,e2⟩:=a8 h;obtain⟨v,h1,h2⟩:=bO p e2;exact(aD v (by rw[e1];exact h1) h2)
def wJ{α:Type}{r:V->α->Prop}{xs:List α}{lo hi:ZK}(p:Paired r vs xs):Paired r (zk vs lo hi) (cut xs lo hi):=by unfold zk cut;rw[p.length];exact Paired.takeB _<|Paired.dropB _ p
def il{α:Type}{r:Rp α}:∀{ws:List (Key×V)} {kvs:List (Int×α)},Paired (cN r F) ws kvs->(∀a,find kvs k=Wb a->∃v,iT ws (.inl k)=Wb v/\r.rel F v a)/\(find kvs k=Wc->iT ws (.inl k)=Wc):=λp=>by
 induction p with
 |nil=>exact⟨λa h=>(nomatch h),λx=>rfl⟩
 |@cons w kv ws kvs h t ih =>
  obtain⟨e1,e2⟩:=h;by_cases q:kv.1=k
  ·have e3:w.1=J2 k:=by rw[e1,q]
   have ef:find (kv ::kvs) k=Wb kv.2:=by unfold find;rw[List.find?_cons_of_pos (by simpa using q)];rfl
   rw[ef,lE e3];exact⟨λa h=>by cases h;exact(aD _ rfl e2),λh=>(nomatch h)⟩
  ·have e3:¬ w.1=J2 k:=by rw[e1];intro z;exact q<|J2.inj z
   have ef:find (kv ::kvs) k=find kvs k:=by unfold find;rw[List.find?_cons_of_neg (by simpa using q)]
   rw[ef,lF e3];exact ih
def Paired.mapB{α β α' β':Type}{F:α->β->Prop}{G:α'->β'->Prop}{f:α->α'}{g:β->β'}(h:∀a b,F a b->G (f a) (g b)):∀{l:List α} {m:List β},Paired F l m->Paired G (l.map f) (m.map g):=λp=>by
 induction p with
 |nil=>exact .nil
 |cons r _ ih=>exact .cons (h _ _ r) ih
def wK{α:Type}{r:Rp α}:∀{ws:List (Key×V)} {kvs:List (Int×α)},Paired (cN r F) ws kvs->(ws.any λkv=>decide<|kv.1=J2 k)=kvs.any λkv=>decide (kv.1=k):=λp=>by
 induction p with
 |nil=>rfl
 |cons h _ ih =>rw[E1,E1,ih,h.1];congr 1;rw[V6];simp
def wL{α:Type}{r:Rp α}{a:α}(hv:r.rel F v a){kvs:List (Int×α)}(p:Paired (cN r F) ws kvs):Paired (cN r F) (putK ws (.inl k) v) (Pu.put kvs k a):=by
 unfold putK Pu.put;rw[wK p];split
 ·refine Paired.mapB (λw kv h=>?_) p;by_cases q:kv.1=k
  ·rw[VP q,VP (by rw[h.1,q])];exact⟨h.1,hv⟩
  ·rw[VQ q,VQ (by rw[h.1];intro z;exact q<|J2.inj z)];exact h
 ·exact Paired.app p<|.cons ⟨rfl,hv⟩ .nil
section
variable {X:Cx}
def Bt:R2:=λx y H Q=>∃l b xs zs,x=.ref l/\y=.ref b/\Rd H l (.lst xs)/\Rd H b (.lst zs)/\xs.length+zs.length<=W0/\∀p,H p=Wc->Q (.ref p) (aB H p<|.lst<|xs++zs)
def op_catS:kh X (WS .Add) Bt:=by
 intro ZY s σ H x y v u Q I rx ry h;obtain⟨l,b,xs,zs,rfl,rfl,hH,hB,hz,q⟩:=h;cases rx;cases ry;obtain⟨z,Wj,n,r,e⟩:=(show bA X.prog X.w H s.heap l (.lst xs) from hH.ok I.hok);obtain⟨z2,its2,n2,r2,e2⟩:=(show bA X.prog X.w H s.heap b (.lst zs) from hB.ok I.hok);have hl:=r.length;have hl2:=r2.length;refine PySem.P.add_list e e2 ?_ (by rw[Y6,Y6];lia);have ea:Wj.toArray++its2.toArray=(Wj++its2).toArray:=by simp
 rw[ea];exact⟨.ref _,_,I.lnew (t':=s.toks) (r.append r2) (by rw[X4];lia),rfl,q _ I.fresh⟩
end
section
variable (Γ:List Slot){α τ:Type}
def EVs(n:Nat)(t:TA)(o:Option (List α))(r:Rp α):Prop:=∀C F σ H Q xs,SR C F Γ σ H->o=Wb xs->(∀vs F' H',Ext F H F' H'->vs.length=n->Paired (r.rel F') vs xs->Q vs H')->t σ H Q
structure RpA(τ:Type) where
 rel:Hp->List V->τ->Prop
 mono:∀{H H':Hp} {vs:List V} {a:τ},aL H H'->rel H vs a->rel H' vs a
 slots:τ->List Slot
 ok:∀{F:Hp} {vs:List V} {a:τ},rel F vs a->vs.length=(slots a).length/\∀(i:Nat) s,(slots a)[i]?=Wb s->s.own=We/\∃v,vs[i]?=Wb v/\∀H0 H,fR H0 F H s (Wb v)
def bo{α:Type}(r:Rp α):RpA α:=⟨λH vs a=>∃v,vs=[v]/\r.rel H v a,λe ⟨v,h1,h2⟩=>(aD v h1<|r.mono e h2),λa=>[.fr r a],λ{F vs a} zq=>bN zq λv h1 h2=>by
 subst h1;refine⟨rfl,λi s h=>?_⟩
 match i,h with
 |0,h=>cases h;exact⟨rfl,v,rfl,λx x=>⟨v,rfl,h2⟩⟩
 |i+1,h=>simp at h⟩
def ay{α τ:Type}(r:Rp α)(ra:RpA τ):RpA (α×τ):=⟨λH vs a=>∃v ws,vs=v ::ws/\r.rel H v a.1/\ra.rel H ws a.2,λe ⟨v,ws,h1,h2,h3⟩=>(eB v ws h1 (r.mono e h2)<|ra.mono e h3),λa=>.fr r a.1 ::ra.slots a.2,λ{F vs a} zq=>k7 zq λv ws h1 h2 h3=>by
 subst h1;obtain⟨l,g⟩:=ra.ok h3;refine⟨by simp[l],λi s h=>?_⟩
 match i,h with
 |0,h=>cases h;exact⟨rfl,v,rfl,λx x=>⟨v,rfl,h2⟩⟩
 |i+1,h=>exact g i s (by simpa using h)⟩
def EA(t:TA)(o:Option τ)(ra:RpA τ):Prop:=∀C F σ H Q a,SR C F Γ σ H->o=Wb a->(∀vs F' H',Ext F H F' H'->ra.rel F' vs a->Q vs H')->t σ H Q
def nD{γ:Type}(ra:RpA τ)(r:Rp γ)(f:τ->Option γ):Sp:=λvs H Q x=>∃F a c,aL F H/\NT F/\TbG H/\ra.rel F vs a/\f a=Wb c/\∀v F' H',Ext F H F' H'->r.rel F' v c->Q v H'
def pf{γ:Type}(ra:RpA τ)(r:Rp γ)(f:τ->Option (List γ)):Sp:=λvs H Q x=>∃F a xs,aL F H/\NT F/\TbG H/\ra.rel F vs a/\f a=Wb xs/\∀p vs F' H1,Ext F H F' H1->H1 p=Wc->Paired (r.rel F') vs xs->Q (.ref p) (aB H1 p<|.lst vs)
def spD{γ:Type}(ra:RpA τ)(r:Rp γ)(f:τ->Option (List<|Int×γ)):Sp:=λvs H Q x=>∃F a xs,aL F H/\NT F/\TbG H/\ra.rel F vs a/\f a=Wb xs/\∀p vs F' H1,Ext F H F' H1->H1 p=Wc->Paired (cN r F') vs xs->Q (.ref p) (aB H1 p<|.dK vs)
end
section
variable {Γ:List Slot}{α β γ τ:Type}{r:Rp α}{s:Rp β}{q:Rp γ}{ta tb tc:TE}{oa:Option α}{ob:Option β}{oc:Option γ}{K:Z1}{t:TA}{ra:RpA τ}{oτ:Option τ}{oi:ZK}
def au(h:EV Γ ta oa r):EA Γ (aK ta bL) oa (bo r):=λC F σ H Q a S e k=>h C F σ H _ a S e λv F' H' x1 r1=>k _ F' H' x1 ⟨v,rfl,r1⟩
def am(h:EV Γ ta oa r)(h':EA Γ t oτ ra):EA Γ (aK ta t) (oa.bind λa=>oτ.bind λb=>Wb (a,b)) (ay r ra):=by intro C F σ H Q c S e k;obtain⟨a,e1,e⟩:=a8 e;obtain⟨b,e2,e⟩:=a8 e;cases e;exact h C F σ H _ a S e1 λv F' H' x1 r1=>h' C F' σ H' _ b (S.grow x1) e2 λvs F2 H2 x2 r2=>k _ F2 H2 (x1.trans x2) ⟨v,vs,rfl,r.mono x2.ff r1,r2⟩
def aF{f:τ->Option γ}(h:EA Γ t oτ ra):EV Γ (lB (nD ra q f) [] E0 t) (oτ.bind f) q:=by intro C F σ H Q c S e k;obtain⟨a,e1,e⟩:=a8 e;exact h C F σ H _ a S e1 λvs F' H' x1 r1=>⟨F',a,c,x1.sub,x1.nt S.nt,x1.hh.tg S.tg,by rw[V2];exact r1,e,λv F2 H2 x2 r2=>k v F2 H2 (x1.trans x2) r2⟩
def aR{f:τ->Option (List γ)}(h:EA Γ t oτ ra):iR Γ (lB (pf ra q f) [] E0 t) (oτ.bind f) q:=by intro C F σ H Q c S e k;obtain⟨a,e1,e⟩:=a8 e;exact h C F σ H _ a S e1 λvs F' H' x1 r1=>⟨F',a,c,x1.sub,x1.nt S.nt,x1.hh.tg S.tg,by rw[V2];exact r1,e,λp ws F2 H2 x2 hp r2=>k p ws F2 H2 (x1.trans x2) hp r2⟩
def Bu{f:τ->Option (List<|Int×γ)}(h:EA Γ t oτ ra):EVD Γ (lB (spD ra q f) [] E0 t) (oτ.bind f) q:=by intro C F σ H Q c S e k;obtain⟨a,e1,e⟩:=a8 e;exact h C F σ H _ a S e1 λvs F' H' x1 r1=>⟨F',a,c,x1.sub,x1.nt S.nt,x1.hh.tg S.tg,by rw[V2];exact r1,e,λp ws F2 H2 x2 hp r2=>k p ws F2 H2 (x1.trans x2) hp r2⟩
def iR.ev(h:iR Γ ta o r):EV Γ ta o (rL r):=λC F σ H Q xs S e k=>h C F σ H Q xs S e λp vs F' H1 x1 hp r1 =>
 k _ _ _ (x1.trans<|Ext.new x1.sub hp) ⟨p,vs,rfl,Rd.of ae,Paired.imp2 (λx x z=>r.mono (aE<|x1.sub.free hp) z) r1⟩
def EVD.ev(h:EVD Γ ta o r):EV Γ ta o (rD r):=λC F σ H Q xs S e k=>h C F σ H Q xs S e λp vs F' H1 x1 hp r1 =>
 k _ _ _ (x1.trans<|Ext.new x1.sub hp) ⟨p,vs,rfl,ae,Paired.imp2 (λx x z=>⟨z.1,r.mono (aE<|x1.sub.free hp) z.2⟩) r1⟩
def yl(ha:EV Γ ta oa r):EV Γ (tTup<|aK ta bL) oa (rT1 r):=by intro C F σ H Q a S e1 k;exact ha C F σ H _ a S e1 λx F' H' x1 r1=>⟨by show 1<=W0;decide,λp hp=>k _ _ _ (x1.trans<|Ext.new x1.sub hp) ⟨p,x,rfl,ae,r.mono (aE<|x1.sub.free hp) r1⟩⟩
def gH(ha:EV Γ ta oa r)(hb:EV Γ tb ob s):EV Γ (tTup<|aK ta<|aK tb bL) (oa.bind λa=>ob.bind λb=>Wb (a,b)) (ga r s):=by intro C F σ H Q c S e k;obtain⟨a,e1,e⟩:=a8 e;obtain⟨b,e2,e⟩:=a8 e;cases e;exact EV.two (q:=λx y H2=>[x,y].length<=W0/\∀p,H2 p=Wc->Q (.ref p) (aB H2 p<|.tup [x,y])) ha hb S e1 e2 λx y F' H' x1 r1 r2=>⟨by show 2<=W0;decide,λp hp=>k _ _ _ (x1.trans<|Ext.new x1.sub hp) ⟨p,x,y,rfl,ae,r.mono (aE<|x1.sub.free hp) r1,s.mono (aE<|x1.sub.free hp) r2⟩⟩
def ev_tup3(ha:EV Γ ta oa r)(hb:EV Γ tb ob s)(hc:EV Γ tc oc q):EV Γ (tTup<|aK ta<|aK tb<|aK tc bL) (oa.bind λa=>ob.bind λb=>oc.bind λc=>Wb (a,b,c)) (qp r s q):=by intro C F σ H Q c S e k;obtain⟨a,e1,e⟩:=a8 e;obtain⟨b,e2,e⟩:=a8 e;obtain⟨c,e3,e⟩:=a8 e;cases e;refine EV.two (q:=λx y H2=>tc σ H2 λz H3=>[x,y,z].length<=W0/\∀p,H3 p=Wc->Q (.ref p) (aB H3 p<|.tup [x,y,z])) ha hb S e1 e2 λx y F' H' x1 r1 r2=>?_;refine hc C F' σ H' _ c (S.grow x1) e3 λz F2 H2 x2 r3=>⟨by show 3<=W0;decide,λp hp=>?_⟩;have e:=aE (o:=.tup [x,y,z])<|x2.sub.free hp;exact k _ _ _ ((x1.trans x2).trans (Ext.new x2.sub hp)) ⟨p,x,y,z,rfl,ae,r.mono (x2.ff.trans e) r1,s.mono (x2.ff.trans e) r2,q.mono e r3⟩
def Bv{T:Type}{u:Rp T}{o:Option T}(get:T->γ)(h:EV Γ ta o u)(hg:∀F H v a Q,aL F H->u.rel F v a->(∀w,q.rel F w (get a)->Q w H)->wu K v (.int n) H Q):EV Γ (iQ (wu K) ta<|tC<|.int n) (o.bind λp=>Wb<|get p) q:=by intro C F σ H Q c S e k;obtain⟨a,e1,e⟩:=a8 e;cases e;exact h C F σ H _ a S e1 λv F' H' x1 r1=>hg F' H' v a _ x1.sub r1 λw rw=>k w F' H' x1 rw
def jO(h:EV Γ ta o (ga r s)):EV Γ (iQ (wu K) ta<|tC<|.int 0) (o.bind λp=>Wb p.1) r:=Bv (·.1) h λF H v a Q sb zq k=>rX zq λp x y e h1 h2 h3=>⟨p,_,_,x,e,rfl,l9.of<|sb _ _ h1,rfl,k x h2⟩
def cr(h:EV Γ ta o (ga r s)):EV Γ (iQ (wu K) ta<|tC<|.int 1) (o.bind λp=>Wb p.2) s:=Bv (·.2) h λF H v a Q sb zq k=>rX zq λp x y e h1 h2 h3=>⟨p,_,_,y,e,rfl,l9.of<|sb _ _ h1,rfl,k y h3⟩
def ce:EVs Γ 0 bL (Wb []) r:=λC F σ H Q xs S e k=>by cases e;exact k [] F H (Ext.refl S.sub) rfl .nil
def bg(h:EV Γ ta oa r)(h':EVs Γ n t o r):EVs Γ (n+1) (aK ta t) (oa.bind λa=>o.bind λb=>Wb (a ::b)) r:=by intro C F σ H Q c S e k;obtain⟨a,e1,e⟩:=a8 e;obtain⟨b,e2,e⟩:=a8 e;cases e;exact h C F σ H _ a S e1 λv F' H' x1 r1=>h' C F' σ H' _ b (S.grow x1) e2 λvs F2 H2 x2 l r2=>k _ F2 H2 (x1.trans x2) (by simp[l])<|.cons (r.mono x2.ff r1) r2
def cf{n:Nat}{o:Option (List α)}(h:EVs Γ n t o r)(hn:autoParam (n<=16777216) gR._auto_1):iR Γ (tLst t) o r:=λC F σ H Q xs S e k=>h C F σ H _ xs S e λvs F' H' x1 l r1=>⟨by rw[l,V0];exact hn,λp hp=>k p vs F' H' x1 hp r1⟩
def bu(sq:Sq K rl r)(h:EV Γ ta o rl)(hi:EV Γ tb oi a7):EV Γ (iQ (wt K) ta tb) (o.bind λxs=>oi.bind λi=>Pu.at_ xs i) r :=
 lL (r:=rl) (s:=a7) (λF H x y a b c Q sb hx r2 e3 k=>by obtain⟨p,vs,e,h1,h2⟩:=sq.get hx;obtain⟨v,h3,h4⟩:=wI h2 e3;exact⟨p,vs,b,v,e,r2,sb.seq h1,h3,k v h4⟩) h hi
def Bw(h:EV Γ ta o (rD r))(hi:EV Γ tb oi a7):EV Γ (tDGet ta tb) (o.bind λxs=>oi.bind λi=>find xs i) r:=by intro C F σ H Q c S e k;obtain⟨a,e1,e⟩:=a8 e;obtain⟨b,e2,e⟩:=a8 e;refine EV.two (q:=λx y H2=>∃a v,x=.ref a/\mG H2 a y (Wb v)/\Q v H2) h hi S e1 e2 λx y F' H' x1 zq r2=>k7 zq λp ws e3 h1 h2=>?_;obtain⟨v,h3,h4⟩:=(il (k:=b) h2).1 c e;exact(eB p v e3 (.inl<|eB ws (.inl b) (.inl<|x1.sub _ _ h1) r2 h3.symm)<|k v F' H' x1 h4)
def jP(hi:EV Γ tb oi a7)(h:EV Γ ta o (rD r)):EV Γ (ya tb ta) (oi.bind λi=>o.bind λxs=>Wb<|!(find xs i).isSome) aX:=by
 intro C F σ H Q c S e k;obtain⟨b,e2,e⟩:=a8 e;obtain⟨a,e1,e⟩:=a8 e;cases e;refine EV.two (q:=λy x H2=>∃a o,x=.ref a/\mG H2 a y o/\Q (.bl<|!o.isSome) H2) hi h S e2 e1 λy x F' H' x1 r2 ⟨p,ws,e3,h1,h2⟩=>?_;refine(eB p (iT ws<|.inl b) e3 (.inl<|eB ws (.inl b) (.inl<|x1.sub _ _ h1) r2 rfl) ?_);have:(iT ws<|.inl b).isSome=(find a b).isSome:=by
  obtain⟨g1,g2⟩:=il (k:=b) h2;cases q:find a b with
  |none=>rw[g2 q];rfl
  |some z=>obtain⟨v,h3,_⟩:=g1 z q;rw[h3];rfl
 rw[this];exact k _ F' H' x1 rfl
set_option tactic.hygienic true in
def evl_cat(h:EV Γ ta o (rL r))(h':EV Γ tb o' (rL r)):iR Γ (iQ Bt ta tb) (o.bind λxs=>o'.bind λys=>CY xs ys) r:=by
 intro C F σ H Q c S e k;obtain⟨a,e1,e⟩:=a8 e;obtain⟨b,e2,e⟩:=a8 e;unfold CY at e;split at e
 ·rename_i hl;cases e;exact EV.two (q:=λx y H2=>Bt x y H2 Q) h h' S e1 e2 λx y F' H' x1 zq zp=>k7 zq λp vs e3 h1 h2=>k7 zp λp' vs' e4 h3 h4=>⟨p,p',vs,vs',e3,e4,x1.sub.rd h1,x1.sub.rd h3,by rw[h2.length,h4.length,V0];exact hl,λp hp=>k p _ F' H' x1 hp<|Paired.app h2 h4⟩
 ·cases e
def oo(h:EV Γ ta oi a7):EO Γ (tPart ta) (oi.bind λi=>Wb<|some i):=by intro C F σ H Q c S e k;obtain⟨a,e1,e⟩:=a8 e;cases e;exact h C F σ H _ a S e1 λv F' H' x1 r1=>(aD a r1<|k F' H' x1)
def yn(sq:Sq K rl r)(h:EV Γ ta o rl)(h1:EO Γ tl ol)(h2:EO Γ th oh):iR Γ (tSl (rSlL K) ta tl th) (o.bind λxs=>ol.bind λlo=>oh.bind λhi=>Wb<|cut xs lo hi) r:=by
 intro C F σ H Q c S e k;obtain⟨a,e1,e⟩:=a8 e;obtain⟨lo,e2,e⟩:=a8 e;obtain⟨hi,e3,e⟩:=a8 e;cases e;refine h C F σ H _ a S e1 λx F1 H1 x1 hx=>?_;obtain⟨p,vs,e4,z1,z2⟩:=sq.get hx;exact h1 C F1 σ H1 _ lo (S.grow x1) e2 λF2 H2 x2=>h2 C F2 σ H2 _ hi ((S.grow x1).grow x2) e3 λF3 H3 x3 =>
  ⟨p,vs,e4,x3.sub.seq<|x3.ff.seq<|x2.ff.seq z1,λp hp=>k p _ F3 H3 ((x1.trans x2).trans x3) hp<|wJ<|Paired.imp2 (λx x z=>r.mono (x2.ff.trans x3.ff) z) z2⟩
def dB(sq:Sq K rl r)(h:EV Γ ta o rl):EV Γ (qV (rLen K)<|aK ta bL) (o.bind λxs=>Wb<|ln xs) a7:=by intro C F σ H Q c S e k;obtain⟨a,e1,e⟩:=a8 e;cases e;refine h C F σ H _ a S e1 λv F' H' x1 hv=>?_;obtain⟨p,vs,e2,h1,h2⟩:=sq.get hv;exact⟨p,vs,by rw[e2],.inl<|x1.sub.seq h1,k _ F' H' x1 (by rw[h2.length];rfl)⟩
def lM(sq:Sq K rl r)(h:EV Γ ta o rl):iR Γ (qV (sL K)<|aK ta bL) o r:=λC F σ H Q xs S e k=>h C F σ H _ xs S e λv F' H' x1 hv=>by obtain⟨p,vs,e2,h1,h2⟩:=sq.get hv;exact⟨p,vs,by rw[e2],.inl<|x1.sub.seq h1,λl hl=>k l vs F' H' x1 hl h2⟩
def wM(h:EV Γ ta oi a7):EV Γ (qV (λxs H Q=>∃i,xs=[.int i]/\Q (.int (if i<0 then -i else i)) H)<|aK ta bL) (oi.bind λi=>Wb<|ab i) a7:=by intro C F σ H Q c S e k;obtain⟨a,e1,e⟩:=a8 e;cases e;exact h C F σ H _ a S e1 λv F' H' x1 r1=>⟨a,by rw[r1],k _ F' H' x1 rfl⟩
def lN(h:EV Γ ta oi a7)(h':EV Γ tb oj a7):EV Γ (qV (λxs H Q=>∃i j,xs=[.int i,.int j]/\Q (.int (if j<i then j else i)) H)<|aK ta<|aK tb bL) (oi.bind λi=>oj.bind λj=>Wb<|Pu.mn i j) a7:=by intro C F σ H Q c S e k;obtain⟨a,e1,e⟩:=a8 e;obtain⟨b,e2,e⟩:=a8 e;cases e;exact EV.two (q:=λx y H2=>∃i j,[x,y]=[.int i,.int j]/\Q (.int (if j<i then j else i)) H2) h h' S e1 e2 λx y F' H' x1 r1 r2=>⟨a,b,(by rw[r1,r2]),k _ F' H' x1 rfl⟩
def lO(h:EV Γ ta oi a7)(h':EV Γ tb oj a7):EV Γ (qV (λxs H Q=>∃i j,xs=[.int i,.int j]/\Q (.int (if j > i then j else i)) H)<|aK ta<|aK tb bL) (oi.bind λi=>oj.bind λj=>Wb<|Pu.mx i j) a7:=by intro C F σ H Q c S e k;obtain⟨a,e1,e⟩:=a8 e;obtain⟨b,e2,e⟩:=a8 e;cases e;exact EV.two (q:=λx y H2=>∃i j,[x,y]=[.int i,.int j]/\Q (.int (if j > i then j else i)) H2) h h' S e1 e2 λx y F' H' x1 r1 r2=>⟨a,b,(by rw[r1,r2]),k _ F' H' x1 rfl⟩
def ev_intB(h:EV Γ ta o aX):EV Γ (qV (λxs H Q=>(∃i,xs=[.int i]/\Q (.int i) H)\/∃k,xs=[.bl k]/\Q (.int (if k then 1 else 0)) H)<|aK ta bL) (o.bind λb=>Wb<|ofb b) a7:=by intro C F σ H Q c S e k;obtain⟨a,e1,e⟩:=a8 e;cases e;exact h C F σ H _ a S e1 λv F' H' x1 r1=>.inr<|aD a (by rw[r1])<|k _ F' H' x1 rfl
structure Fe[DecidableEq α](r:Rp α):Prop where
 flat:∀{F v a},r.rel F v a->kj v=Wd
 eq:∀{F v w a b},r.rel F v a->r.rel F w b->AU v w=decide (a=b)
def Bx:Fe a7:=⟨λh=>by cases h;rfl,λh h'=>by cases h;cases h';exact(by rw[V6];simp[AU])⟩
def zE[DecidableEq α](f:Fe r)(hx:r.rel F x a):∀{vs:List V} {xs:List α},Paired (r.rel F) vs xs->inV x vs=decide (a∈xs)/\vs.all kj=Wd:=λp=>by
 induction p with
 |nil=>exact⟨by simp[inV],rfl⟩
 |@cons v y vs ys h t ih =>
  obtain⟨i1,i2⟩:=ih;refine⟨?_,by rw[List.all_cons,f.flat h,i2];rfl⟩;have:inV x (v ::vs)=(AU v x || inV x vs):=rfl;rw[this,i1,f.eq h hx,V6,Bool.or_eq_true,VS,VS,VS,Y1]
  constructor
  ·rintro(z|z)
   ·exact .inl z.symm
   ·exact .inr z
  ·rintro(z|z)
   ·exact .inl z.symm
   ·exact .inr z
def yo[DecidableEq α](f:Fe r)(h:EV Γ ta oa r)(h':EV Γ tb o (ga r r)):EV Γ (iQ (rIn K We) ta tb) (oa.bind λa=>o.bind λp=>Wb<|decide<|a=p.1\/a=p.2) aX :=
 lL (r:=r) (s:=ga r r) (λF H x y a b c Q sb r1 zq e3 k=>rX zq λp u v e h1 h2 h3=>by
  cases e3;obtain⟨i1,i2⟩:=zE f r1<|.cons h2<|.cons h3 .nil;refine⟨p,[u,v],e,.inr<|l9.of<|sb _ _ h1,f.flat r1,i2,?_⟩;rw[VQ Z3,i1];have:decide (a∈[b.1,b.2])=decide (a=b.1\/a=b.2):=by simp
  rw[this];exact k _ rfl) h h'
def TyOf.same{t:Wx}(e:aL F H)(h:TyOf K F v t):TyOf K H v t:=by
 cases h with
 |non=>exact .non
 |bl x=>exact .bl x
 |int i=>exact .int i
 |str x=>exact .str x
 |flt x=>exact .flt x
 |lst h=>exact .lst<|e _ _ h
 |frz h=>exact .frz<|e _ _ h
 |tup h=>exact .tup<|e _ _ h
 |dK h=>exact .dK<|e _ _ h
 |dT h=>exact .dT<|e _ _ h
 |ins h a b c d f=>exact .ins (e _ _ h) a b c d f
def mK{f:α->Bool}(h:EV Γ ta oa r)(hf:∀F v a,r.rel F v a->∃t,TyOf K F v t/\Q5 K t (.type T)=Wb (f a)):EV Γ (qV (rIsi K T)<|aK ta<|aK (tC<|.ty T) bL) (oa.bind λa=>Wb<|f a) aX:=by intro C F σ H Q c S e k;obtain⟨a,e1,e⟩:=a8 e;cases e;refine h C F σ H _ a S e1 λv F' H' x1 r1=>?_;obtain⟨t,h1,h2⟩:=hf F' v a r1;exact⟨v,t,f a,rfl,h1.same x1.sub,h2,k _ F' H' x1 rfl⟩
def sW:Q5 K (.type "NoneType") (.type "int")=Wb We:=by with_unfolding_all rfl
def qB:Q5 K (.type "NoneType") (.type "bool")=Wb We:=by with_unfolding_all rfl
def isi_oi(F:Hp)(v:V)(a:ZK)(h:(b8 a7).rel F v a):∃t,TyOf K F v t/\Q5 K t (.type "int")=Wb (a.isSome):=by
 cases a with
 |none=>cases h;exact(aD _ .non sW)
 |some i=>cases h;exact(aD _ (.int i) uA)
def isi_ob(F:Hp)(v:V)(a:ZK)(h:(b8 a7).rel F v a):∃t,TyOf K F v t/\Q5 K t (.type "bool")=Wb ((λx=>We) a):=by
 cases a with
 |none=>cases h;exact(aD _ .non qB)
 |some i=>cases h;exact(aD _ (.int i) sK)
def wN(F:Hp)(v:V)(a:List α)(h:(rL r).rel F v a):∃t,TyOf K F v t/\Q5 K t (.type "list")=Wb ((λx=>Wd) a):=by
 obtain⟨p,vs,rfl,(h|⟨o,h⟩),_⟩:=h
 ·exact(aD _ (.lst h) km)
 ·exact(aD _ (.frz h) km)
def isi_t3(F:Hp)(v:V)(a:α×β×γ)(h:(qp r s q).rel F v a):∃t,TyOf K F v t/\Q5 K t (.type "tuple")=Wb ((λb=>Wd) a):=by obtain⟨p,x,y,z,rfl,h,_⟩:=h;exact(aD _ (.tup h) uB)
end
end
section
open PySem PySem.Spec PyProof.Rows
variable [Kn:Kon]
section
variable {Γ:List Slot}{α β γ S R:Type}{r:Rp α}{s:Rp β}{q:Rp γ}{ta tb:TE}{ob:Option β}{K:Z1}{oi:ZK}
def fq{F H F' H':Hp}{p:Wy}{u:HO}(hF:F p=Wc)(hH:H p=Wb u)(e:Ext (aB F p u) H F' H')(nu:autoParam (fI u) a4q._auto_1):Ext F H (del F' p) H'/\F' p=Wb u:=by
 refine⟨⟨e.hh,λb o h=>?_,λb o h=>e.sub b o (b7 h).2,λb o h=>?_,λz b ps q=>e.nt (iW z nu) b ps (b7 q).2⟩,e.ff p u ae⟩
 ·have n:b≠p:=ag h hF;rw[b0 n];exact e.ff b o (by rw[ah n];exact h)
 ·obtain⟨n,h⟩:=b7 h;rcases e.nw b o h with z|z
  ·rw[ah n]at z;exact .inl z
  ·exact .inr z
def SR.borrow{φ:ZJ}(S:SR C F Γ σ H)(hi:Γ[i]?=Wb (.ol r φ xs)):∃p vs,F p=Wc/\H p=Wb (.lst vs)/\SR C (aB F p<|.lst vs) (Γ.set i<|.fr (rL r) xs) σ H:=by refine cz (S.at_ i _ hi) λp vs h1 h2 h3 h4 h5 h6=>?_;exact(eB p vs h4 h5<|S.freeze hi p _ _ rfl rfl h1 h3 h4 h5 ⟨_,rfl,p,vs,rfl,Rd.of ae,Paired.imp2 (λx x z=>Rp.mono _ (aE h4) z) h6⟩ trivial)
def SR.borrowD{φ:ZJ}(S:SR C F Γ σ H)(hi:Γ[i]?=Wb (.od r φ kvs)):∃p ws,F p=Wc/\H p=Wb (.dK ws)/\SR C (aB F p<|.dK ws) (Γ.set i<|.fr (rD r) kvs) σ H:=by refine cz (S.at_ i _ hi) λp vs h1 h2 h3 h4 h5 h6=>?_;exact(eB p vs h4 h5<|S.freeze hi p _ _ rfl rfl h1 h3 h4 h5 ⟨_,rfl,p,vs,rfl,ae,Paired.imp2 (λx x z=>⟨z.1,Rp.mono _ (aE h4) z.2⟩) h6⟩ trivial)
abbrev brw(Γ:List Slot)(i:Nat){α:Type}(r:Rp α)(xs:List α):List Slot:=Γ.set i<|.fr (rL r) xs
abbrev brwD(Γ:List Slot)(i:Nat){α:Type}(r:Rp α)(kvs:List (Int×α)):List Slot:=Γ.set i<|.fr (rD r) kvs
def ev_bor{φ:ZJ}(i:Nat)(hi:Γ[i]?=Wb (.ol r φ xs))(fl:Flat s)(h:EV (brw Γ i r xs) tb ob s):EV Γ tb ob s:=by intro C F σ H Q b S e k;obtain⟨p,vs,h1,h2,S'⟩:=S.borrow hi;refine h C _ σ H Q b S' e λv F' H' x1 r1=>?_;obtain⟨x2,h3⟩:=fq h1 h2 x1;exact k v _ H' x2<|fl h3 trivial r1
def sX{φ:ZJ}(i:Nat)(hi:Γ[i]?=Wb (.ol r φ xs))(fl:Flat s)(h:iR (brw Γ i r xs) tb o s):iR Γ tb o s:=by intro C F σ H Q b S e k;obtain⟨p,vs,h1,h2,S'⟩:=S.borrow hi;refine h C _ σ H Q b S' e λv ws F' H' x1 hv r1=>?_;obtain⟨x2,h3⟩:=fq h1 h2 x1;exact k v ws _ H' x2 hv<|Paired.imp2 (λx x z=>fl h3 trivial z) r1
def By{φ:ZJ}(i:Nat)(hi:Γ[i]?=Wb (.od r φ kvs))(fl:Flat s)(h:iR (brwD Γ i r kvs) tb o s):iR Γ tb o s:=by intro C F σ H Q b S e k;obtain⟨p,vs,h1,h2,S'⟩:=S.borrowD hi;refine h C _ σ H Q b S' e λv ws F' H' x1 hv r1=>?_;obtain⟨x2,h3⟩:=fq h1 h2 x1;exact k v ws _ H' x2 hv<|Paired.imp2 (λx x z=>fl h3 trivial z) r1
def kK{φ:ZJ}(i:Nat)(hi:Γ[i]?=Wb (.ol r φ xs))(h:ET (brw Γ i r xs) t o):ET Γ t o:=by intro C F σ H Q b S e k;obtain⟨p,vs,h1,h2,S'⟩:=S.borrow hi;refine h C _ σ H Q b S' e λF' H' x1=>?_;obtain⟨x2,h3⟩:=fq h1 h2 x1;exact k _ H' x2
def yp{φ:ZJ}(i:Nat)(hi:Γ[i]?=Wb (.od r φ kvs))(h:ET (brwD Γ i r kvs) t o):ET Γ t o:=by intro C F σ H Q b S e k;obtain⟨p,vs,h1,h2,S'⟩:=S.borrowD hi;refine h C _ σ H Q b S' e λF' H' x1=>?_;obtain⟨x2,h3⟩:=fq h1 h2 x1;exact k _ H' x2
def aM(sq:Sq K rl r)(h:EV Γ ta o rl):IV Γ (lz K ta) o r:=λC F σ H R xs S e k=>h C F σ H _ xs S e λv F' H' x1 hv=>by
 obtain⟨p,vs,e2,h1,h2⟩:=sq.get hv;exact(eD p e2 ⟨vs,x1.sub.seq h1⟩ (k _ F' H' x1
  ⟨λi H2 sb hi=>⟨vs,vs[i]'(by rw[h2.length];exact hi),sb.seq h1,by simp⟩,λH2 sb=>⟨vs,sb.seq h1,by rw[h2.length];exact bW _⟩,λi H2 x H3 F1 sb hi zq s1 s2=>tZ zq λe3 y=>by subst e3;obtain⟨w,g1,g2⟩:=bO h2<|Z7 hi;have ex:x=w:=Z4<|(y vs<|sb.seq h1).symm.trans g1;subst ex;exact(eB F1 (xs[i]) (Z7 hi) (Ext.refl s2)<|r.mono s1 g2)⟩))
def pj{f:Nat->Int}(hj:J=⟨λi a=>i<n,λi H x H'=>H'=H/\x=.int (f i),λi a=>n<=i⟩):Walks J F a7 ((Z9 n).map f):=by
 subst hj;refine⟨λi H a hi=>by simpa using hi,λH a=>by simp,λi H2 x H3 F1 sb hi zq s1 s2=>tZ zq λe3 y=>?_⟩;subst e3 y;have hi':i<n:=by simpa using hi
 exact(eB F1 (f i) (by simp[hi']) (Ext.refl s2) rfl)
set_option tactic.hygienic true in
def oq(h:EV Γ ta oi a7):IV Γ (iRng1<|aK ta bL) (oi.bind λj=>qA j) a7:=by
 intro C F σ H R xs S e k;obtain⟨j,e1,e⟩:=a8 e;unfold qA at e;split at e
 ·rename_i hb;cases e;refine h C F σ H _ j S e1 λv F' H' x1 r1=>⟨j,by rw[r1],hb.1,hb.2,k _ F' H' x1 ?_⟩;refine pj (f:=λi=>(i:Int)) ?_;unfold Itr;simp
 ·cases e
set_option tactic.hygienic true in
def yq(h:EV Γ ta oi a7)(h':EV Γ tb oj a7):IV Γ (iRng2<|aK ta<|aK tb bL) (oi.bind λi=>oj.bind λj=>uD i j) a7:=by
 intro C F σ H R xs S e k;obtain⟨i,e1,e⟩:=a8 e;obtain⟨j,e2,e⟩:=a8 e;unfold uD at e;split at e
 ·rename_i hb;cases e;refine EV.two (q:=λx y H2=>∃i j:Int,[x,y]=[.int i,.int j]/\(-(2^62)<=i/\i<2^62/\-(2^62)<=j/\j<2^62)/\R (Itr i (j-i).toNat) H2) h h' S e1 e2 λx y F' H' x1 r1 r2=>(eB i j (by rw[r1,r2]) hb<|k _ F' H' x1 ?_);exact pj (f:=λk=>i+(k:Int)) rfl
 ·cases e
def iv_enum(sq:Sq K rl r)(h:EV Γ ta o rl):IV Γ (Bf K<|aK ta bL) (o.bind λxs=>Wb<|sS xs) (ga a7 r):=by
 intro C F σ H R ys S e k;obtain⟨xs,e1,e⟩:=a8 e;cases e;refine h C F σ H _ xs S e1 λv F' H' x1 hv=>?_;obtain⟨p,vs,e2,h1,h2⟩:=sq.get hv;refine⟨p,by rw[e2],⟨vs,x1.sub.seq h1⟩,k _ F' H' x1 ?_⟩;have len:(sS xs).length=vs.length:=by unfold sS;simp[h2.length]
 refine⟨λi H2 sb hi=>⟨vs,vs[i]'(by rw[<- len];exact hi),sb.seq h1,by simp⟩,λH2 sb=>⟨vs,sb.seq h1,by rw[len];exact bW _⟩,λi H2 x H3 F1 sb hi y s1 s2=>?_⟩;obtain⟨t,z,e4,ht,e5,hz⟩:=y;subst e4 e5;have hi':i<xs.length:=by rw[<- h2.length,<- len];exact hi
 obtain⟨w,g1,g2⟩:=bO h2<|Z7 hi';have ex:z=w:=Z4<|(hz vs<|sb.seq h1).symm.trans g1;subst ex;refine⟨_,((i:Int),xs[i]),?_,Ext.new s2 ht,t,_,_,rfl,ae,rfl,r.mono (s1.trans<|aE<|s2.free ht) g2⟩;unfold sS;rw[Y3,List.getElem?_zipIdx,Z7 hi'];simp
def wO(h:EV Γ ta o (rL r))(h':EV Γ tb o' (rL s)):IV Γ (iZip K<|aK ta<|aK tb bL) (o.bind λxs=>o'.bind λys=>Wb<|xs.zip ys) (ga r s):=by
 intro C F σ H R zs S e k;obtain⟨xs,e1,e⟩:=a8 e;obtain⟨ys,e2,e⟩:=a8 e;cases e;refine EV.two (q:=λx y H2=>∃a b,[x,y]=[.ref a,.ref b]/\(∃xs,dj K H2 a xs)/\(∃ys,dj K H2 b ys)/\R (Itz K a b) H2) h h' S e1 e2 λx y F' H' x1 zq zp=>k7 zq λp vs e3 h1 h2=>k7 zp λp' vs' e4 h3 h4=>⟨p,p',by rw[e3,e4],⟨vs,.inl<|x1.sub.rd h1⟩,⟨vs',.inl<|x1.sub.rd h3⟩,k _ F' H' x1 ?_⟩;have len:(xs.zip ys).length=min vs.length vs'.length:=by simp[h2.length,h4.length]
 refine⟨λi H2 sb hi=>⟨vs,vs',vs[i]'(by lia),vs'[i]'(by lia),.inl<|sb.rd h1,.inl<|sb.rd h3,by simp,by simp⟩,λH2 sb=>⟨vs,vs',.inl<|sb.rd h1,.inl<|sb.rd h3,by lia⟩,λi H2 x H3 F1 sb hi y s1 s2=>?_⟩;obtain⟨t,u,z,e4,ht,e5,hz,hz'⟩:=y;subst e4 e5;have hi1:i<xs.length:=by rw[<- h2.length];lia
 have hi2:i<ys.length:=by rw[<- h4.length];lia
 obtain⟨w,g1,g2⟩:=bO h2<|Z7 hi1;obtain⟨w',g3,g4⟩:=bO h4<|Z7 hi2;have ex:u=w:=Z4<|(hz vs<|.inl<|sb.rd h1).symm.trans g1;have ex':z=w':=Z4<|(hz' vs'<|.inl<|sb.rd h3).symm.trans g3;subst ex ex';have e:=s1.trans<|aE (o:=.tup [u,z])<|s2.free ht;refine⟨_,(xs[i],ys[i]),?_,Ext.new s2 ht,t,_,_,rfl,ae,r.mono e g2,s.mono e g4⟩;rw[List.getElem?_zip_eq_some];exact⟨Z7 hi1,Z7 hi2⟩
def GV(Γ:List Slot)(m:Nat)(g:TG)(r:Rp α)(Γt:α->List Slot):Prop:=∀C F σ H v x k,SR C F Γ σ H->r.rel F v x->(∀σ',SR C F (Γt x) σ' H->((∀j,j<m->σ[j]?=Wb Wc)->Wk σ σ')->k σ' H)->g v σ H k
def Wk.refl:∀{a:St},Wk a a:=by
 intro a;induction a with
 |nil=>trivial
 |cons o r ih=>cases o with|none=>exact ih|some v=>exact⟨rfl,ih⟩
def Wk.set:∀{a b:St} {i:Nat} {v:V},Wk a b->a[i]?=Wb Wc->Wk a (b.set i<|some v):=by
 intro a;induction a with
 |nil=>exact λc e=>nomatch e
 |cons x r ih =>
  intro b i v h e;cases b with
  |nil=>cases x<;>exact h.elim
  |cons o t =>
   cases x with
   |none =>
    cases i with
    |zero=>exact h
    |succ i=>exact ih (b:=t) (i:=i) h e
   |some x =>
    cases i with
    |zero=>exact nomatch e
    |succ i=>exact⟨h.1,ih (b:=t) (i:=i) h.2 e⟩
def aH(i:Nat):GV Γ (i+1) (du i) r (λx=>Γ.set i<|.fr r x):=λC F σ H v x k S h q=>q _ (S.setF i h) λz=>Wk.refl.set<|z i (by exact V3 _)
def lP(i j:Nat):GV Γ (i+j+1) (gTup K 2<|AD (du i)<|AD (du j) gNil) (ga r s) (λx=>(Γ.set i<|.fr r x.1).set j (.fr s x.2)):=λC F σ H v x k S zq q=>rX zq λp a b e h1 h2 h3 =>
 ⟨p,_,e,l9.of<|S.sub _ _ h1,rfl,a,[b],rfl,b,[],rfl,rfl,q _ ((S.setF i h2).setF j h3) λz=>(Wk.refl.set<|z i (by exact Nat.lt_succ_of_le<|R3 _ _)).set (z j (by exact Nat.lt_succ_of_le<|Nat.le_add_left _ _))⟩
def uH(loc:ZL)(cap:ZI)(Γ:List Slot):List Slot:=loc.map (λx=>Slot.any)++cap.map λp=>(Γ[p.2]?).getD .any
def SR.comp(S:SR C F Γ σ H)(hc:(cap.map (·.2)).Nodup):SR C F (uH loc cap Γ) (o8 loc cap σ) H:=by
 have get:∀(i:Nat) s,(uH loc cap Γ)[i]?=Wb s->s=.any\/∃p,loc.length<=i/\cap[i-loc.length]?=Wb p/\Γ[p.2]?=Wb s:=λi s h=>by
  unfold uH at h;by_cases hi:i<loc.length
  ·rw[W3 (by simpa using hi),Y3]at h;cases q:loc[i]? with
   |none=>rw[q]at h;cases h
   |some _=>rw[q]at h;cases h;exact .inl rfl
  ·rw[V1 (by simp;exact W5.mp hi),Z5,Y3]at h;cases q:cap[i-loc.length]? with
   |none=>rw[q]at h;cases h
   |some p =>
    rw[q]at h;have h:(Γ[p.2]?).getD .any=s:=by simpa using h
    cases q2:Γ[p.2]? with
    |none=>rw[q2]at h;exact .inl h.symm
    |some s'=>rw[q2]at h;cases h;exact .inr<|eD p (by exact W5.mp hi) rfl q2
 have stg:∀(i:Nat) p,loc.length<=i->cap[i-loc.length]?=Wb p->(o8 loc cap σ)[i]?=Wb (σ[p.2]?).join:=λi p hi h=>by unfold o8;rw[V1 (by simp;exact hi),Z5,Y3,h];rfl
 refine⟨S.toFr,by unfold o8 uH;simp,λi s h=>?_,λi j s t p h1 h2 o1 o2 e1 e2=>?_⟩
 ·rcases get i s h with rfl|zr1_
  ·have:i<(o8 loc cap σ).length:=by have:=(Z6.mp h).1;unfold uH at this;unfold o8;simpa using this
   exact(aD _ (Z7 this) trivial)
  ·obtain⟨p,hi,h1,h2⟩:=zr1_;obtain⟨o,h3,h4⟩:=S.at_ _ s h2;exact(aD o (by rw[stg i p hi h1,h3];rfl) h4)
 ·rcases get i s h1 with rfl|⟨p1,hi1,g1,g2⟩
  ·cases o1
  rcases get j t h2 with rfl|⟨p2,hi2,g3,g4⟩
  ·cases o2
  have e3:σ[p1.2]?=Wb (Wb<|.ref p):=by obtain⟨o,h3,_⟩:=S.at_ _ s g2;rw[stg i p1 hi1 g1,h3]at e1;rw[h3];exact e1
  have e4:σ[p2.2]?=Wb (Wb<|.ref p):=by obtain⟨o,h3,_⟩:=S.at_ _ t g4;rw[stg j p2 hi2 g3,h3]at e2;rw[h3];exact e2
  have e5:=S.inj _ _ s t p g2 g4 o1 o2 e3 e4;have a1:(cap.map (·.2))[i-loc.length]?=Wb p1.2:=by rw[Y3,g1];rfl
  have a2:(cap.map (·.2))[j-loc.length]?=Wb p1.2:=by rw[Y3,g3,e5];rfl
  have l1:=(Z6.mp a1).1;have l2:=(Z6.mp a2).1;have:i-loc.length=j-loc.length:=(List.getElem?_inj l1 hc).mp (a1.trans a2.symm);lia
end
end
end L2

namespace Pu
open L2
section
variable {β α:Type}{t:β->Option Bool}{f:β->Option α}
def mL:∀(l m:List β),cp t f (l++m)=(cp t f l).bind λa=>(cp t f m).bind λb=>Wb (a++b):=by
 intro l m;induction l with
 |nil=>cases h:cp t f m<;>simp[cp,h]
 |cons x l ih =>
  rw[List.cons_append,cp,cp,ih];cases t x with
  |none=>rfl
  |some b =>
   cases b with
   |false=>rfl
   |true =>
    cases f x with
    |none=>rfl
    |some a =>
     cases h1:cp t f l with
     |none=>rfl
     |some as=>cases h2:cp t f m<;>rfl
def rg:∀{l:List β} {as:List α},cp t f l=Wb as->as.length<=l.length:=by
 intro l;induction l with
 |nil=>exact λh=>Z4 h▸bW _
 |cons x l ih =>
  intro as h;rw[cp]at h;obtain⟨b,_,h⟩:=a8 h;cases b with
  |false=>exact K3<|ih h
  |true=>exact bN (a8 h) λa a h=>bN (a8 h) λas' h1 h=>Z4 h▸Nat.succ_le_succ (ih h1)
def uI(h:cp t f xs=Wb as)(hx:xs[i]?=Wb x):∃p b,cp t f (xs.take i)=Wb p/\t x=Wb b/\(b=Wd->∃c,f x=Wb c/\cp t f (xs.take<|i+1)=Wb (p++[c]))/\(b=We->cp t f (xs.take<|i+1)=Wb p):=by
 have hi:=(Z6.mp hx).1;have ex:=(Z6.mp hx).2;have e:xs=xs.take i++(x ::xs.drop (i+1)):=by rw[<- ex,List.getElem_cons_drop,List.take_append_drop]
 rw[e,mL]at h;obtain⟨p,h1,h⟩:=a8 h;obtain⟨w,h2,_⟩:=a8 h;rw[cp]at h2;obtain⟨b,h3,h2⟩:=a8 h2;have et:xs.take (i+1)=xs.take i++[x]:=by rw[<- ex,P4]
 refine⟨p,b,h1,h3,(λhb=>?_),(λhb=>?_)⟩
 ·subst hb;rw[VP rfl]at h2;obtain⟨c,h4,_⟩:=a8 h2;exact(aD c h4 (by rw[et,mL,h1];simp[cp,h3,h4]))
 ·subst hb;rw[et,mL,h1];simp[cp,h3]
def uJ:∀(xs:List β),qZ f xs=cp (λa=>Wb Wd) f xs:=by
 intro xs;induction xs with
 |nil=>rfl
 |cons x xs ih=>rw[qZ,cp,ih];rfl
end
end Pu

namespace L2
open Pu
section
open PySem PySem.Spec PyProof.Rows
variable [Kn:Kon]
section
variable {Γ:List Slot}{α β S:Type}{r:Rp α}{rb:Rp β}
set_option tactic.hygienic true in
def rj{t:β->Option Bool}{f:β->Option α}{Γt:β->List Slot}(S:SR C F' Γ σ H1)(W:Walks J F' rb xs)(hc:(cap.map (·.2)).Nodup)(hm:m<=loc.length)(hg:GV (uH loc cap Γ) m g rb Γt)(ht:∀x,ET (Γt x) tt (t x))(he:∀x,EV (Γt x) te (f x) r)(e:bJ t f xs=Wb as)(k:∀p vs F2 H2,Ext F' H1 F2 H2->H2 p=Wc->Paired (r.rel F2) vs as->Q (.ref p) (aB H2 p<|.lst vs))(D:Wy)(hD:H1 D=Wc):yd g tt te loc cap σ D Q J H1:=by
 unfold bJ at e;split at e
 case isFalse=>cases e
 rename_i hl;have sn:∀j,j<m->(o8 loc cap σ)[j]?=Wb Wc:=λj hj=>by unfold o8;rw[W3 (by simp;exact cW hj hm),Y3,Z7 (by exact cW hj hm)];rfl
 refine yf (n:=xs.length) (λi ys H2=>∃F1 G p,H2=aB G D (.lst ys)/\G D=Wc/\Ext F' H1 F1 G/\cp t f (xs.take i)=Wb p/\Paired (r.rel F1) ys p) ⟨F',H1,[],rfl,hD,Ext.refl S.sub,(by rw[List.take_zero];rfl),.nil⟩ ?_ ?_ ?_ ?_ ?_
 ·rintro i ys H2 _ ⟨F1,G,p,rfl,_⟩;exact ae
 ·rintro i ys H2 hi ⟨F1,G,p,rfl,hG,x2,_⟩;exact W.go i _ (x2.ff.trans<|x2.sub.trans<|aE hG) hi
 ·rintro ys H2 ⟨F1,G,p,rfl,hG,x2,_⟩;exact W.stop _<|x2.ff.trans<|x2.sub.trans<|aE hG
 ·rintro i ys H2 x H' hi ⟨F1,G,p,rfl,hG,x2,hp,pr⟩ y;have sFH:=x2.sub.trans<|aE (o:=.lst ys) hG;obtain⟨F2,a,ha,x3,ra⟩:=W.yld i _ x H' F1 (x2.ff.trans sFH) hi y x2.ff sFH;have F1D:F1 D=Wc:=x2.sub.free hG;have noD:∀{A B:Hp},Ext F1 (aB G D<|.lst ys) A B->A D=Wc:=λ{A B} x=>by
   cases q:A D with
   |none=>rfl
   |some o =>
    rcases x.nw D o q with z|z
    ·rw[F1D]at z;cases z
    ·rw[ae]at z;cases z
  have S3:SR C F2 (uH loc cap Γ) (o8 loc cap σ) H':=((((S.grow x2).comp hc).grow (Ext.newH x2.sub hG)).grow x3);have fin:∀{A B:Hp} {zs:List V} {pp:List α},Ext F1 (aB G D<|.lst ys) A B->cp t f (xs.take<|i+1)=Wb pp->Paired (r.rel A) zs pp->∃F1 G p,aB B D (.lst zs)=aB G D (.lst zs)/\G D=Wc/\Ext F' H1 F1 G/\cp t f (xs.take<|i+1)=Wb p/\Paired (r.rel F1) zs p:=λ{A B zs pp} x hpp pz=>by
   refine⟨A,del B D,pp,?_,bR,⟨pe (x2.hh.trans<|(pc (o:=.lst ys) hG trivial).trans x.hh) hD (x.hh.kp D (.lst ys) trivial ae) trivial,x2.ff.trans x.ff,λb o h=>?_,λb o h=>?_,λz=>x.nt<|x2.nt z⟩,hpp,pz⟩
   ·funext b;unfold aB del;split<;>rfl
   ·rw[b0 (ag h<|noD x)];exact x.sub b o h
   ·rcases x.nw b o h with z|z
    ·exact x2.nw b o z
    ·have n:b≠D:=by rintro rfl;rw[ae]at z;cases z
     rw[ah n]at z;exact .inr<|x2.hh.un z
  obtain⟨p',b,h1,h2,h3,h4⟩:=uI e ha;rw[hp]at h1;cases h1;refine hg C F2 _ H' x a _ S3 ra λσ' S4 wk=>⟨wk sn,?_⟩;refine ht a C F2 σ' H' _ b S4 h2 λF3 H3 x4=>?_;cases b with
  |false =>
   have hB:H3 D=Wb (.lst ys):=(x3.trans x4).hh.kp D (.lst ys) trivial ae;obtain⟨F5,G5,p5,q1,q2,q3,q4,q5⟩:=fin (x3.trans x4) (h4 rfl)<|Paired.imp2 (λs s z=>r.mono (x3.ff.trans x4.ff) z) pr;refine⟨F5,G5,p5,?_,q2,q3,q4,q5⟩;rw[<- q1];funext b;unfold aB;split
   ·rename_i z;rw[z];exact hB
   ·rfl
  |true =>obtain⟨c,h5,h6⟩:=h3 rfl;refine he a C F3 σ' H3 _ c (S4.grow x4) h5 λv F4 H4 x5 rv=>?_;have x6:=(x3.trans x4).trans x5;refine(oG (x6.hh.kp D (.lst ys) trivial ae) ?_<|fin x6 h6<|Paired.app (Paired.imp2 (λs s z=>r.mono x6.ff z) pr)<|.cons rv .nil);have:=rg hp;rw[pr.length,V0];rw[List.length_take]at this;lia
 ·rintro ys H2 ⟨F1,G,p,rfl,hG,x2,hp,pr⟩;rw[List.take_length,e]at hp;cases hp;exact k D ys F1 G x2 hG pr
def dC{t:β->Option Bool}{f:β->Option α}{Γt:β->List Slot}(hi:IV Γ wi ox rb)(hc:(cap.map (·.2)).Nodup)(hm:m<=loc.length)(hg:GV (uH loc cap Γ) m g rb Γt)(ht:∀x,ET (Γt x) tt (t x))(he:∀x,EV (Γt x) te (f x) r):iR Γ (p6 wi loc cap g tt te) (ox.bind λxs=>bJ t f xs) r:=by intro C F σ H Q as S e k;obtain⟨xs,e1,e⟩:=a8 e;exact hi C F σ H _ xs S e1 λJ F' H1 x1 W D hD=>rj (S.grow x1) W hc hm hg ht he e (λp vs F2 H2 x2=>k p vs F2 H2<|x1.trans x2) D hD
def cu{f:β->Option α}{Γt:β->List Slot}(hi:IV Γ wi ox rb)(hc:(cap.map (·.2)).Nodup)(hm:m<=loc.length)(hg:GV (uH loc cap Γ) m g rb Γt)(he:∀x,EV (Γt x) te (f x) r):iR Γ (p6 wi loc cap g ye te) (ox.bind λxs=>Pu.comp f xs) r:=by
 have h:=dC (t:=λa=>Wb Wd) hi hc hm hg (λa=>yk) he;have e:(λxs=>bJ (λa=>Wb Wd) f xs)=λxs=>Pu.comp f xs:=by funext xs;unfold bJ Pu.comp;rw[uJ]
 rw[e]at h;exact h
end
end
section
open PySem PySem.Spec PyProof.Rows
variable [Kn:Kon]
section
variable {α S T R:Type}
def BV(Γ:List Slot)(t:TS)(o:Option T)(fin:Fc->T->Ends->Prop):Prop:=∀C F σ H D x,SR C F Γ σ H->o=Wb x->fin C x D->t D σ H
def nT(r:Rp α):Fc->α->Ends->Prop:=λC a D=>∀v F H,Fr C F H->r.rel F v a->D.rt v H
def finL(r:Rp α):Fc->List α->Ends->Prop:=λC xs D=>∀p vs F H,Fr C F H->H p=Wc->Paired (r.rel F) vs xs->D.rt (.ref p) (aB H p<|.lst vs)
def finD(r:Rp α):Fc->List (Int×α)->Ends->Prop:=λC xs D=>∀p vs F H,Fr C F H->H p=Wc->Paired (cN r F) vs xs->D.rt (.ref p) (aB H p<|.dK vs)
def yr(g:TbG H)(h:H p=Wb u)(a:Own u):TbG (del H p):=by have ne:∀{c:Wy} {o:HO},H c=Wb o->(u=o->False)->c≠p:=λq n z=>n<|Z4<|h.symm.trans<|z▸q;exact g.mv (λx x q=>(b0 (ne q λz=>sP z a.noTbl)).trans q) (λx x q=>(b0 (ne q λz=>sQ a z)).trans q) λx x q=>(b7 q).2
structure RFin(rf:Fc->R->Ends->Prop):Prop where
 lo:∀{C F x D},aL C.L F->rf C x D->rf {C with L:=F} x D
 en:∀{C x D nx bk ct},rf C x D->rf C x {D with nx:=nx,bk:=bk,ct:=ct}
def rfV:RFin (nT r):=⟨λe h v F H f q=>h v F H (f.raise e) q,λh=>h⟩
def zF(Γf:S->List Slot):Fc->S->Ends->Prop:=λC s D=>∀F σ H,SR C F (Γf s) σ H->D.nx σ H/\D.ct σ H
def zG(Γf:S->List Slot)(rf:Fc->R->Ends->Prop):Fc->Ctl S R->Ends->Prop:=λC c D=>match c with
 |.nx s=>∀F σ H,SR C F (Γf s) σ H->D.nx σ H/\D.ct σ H
 |.bk s=>∀F σ H,SR C F (Γf s) σ H->D.bk σ H
 |.rt r=>rf C r D
def finJ(Γj:S->List Slot):Fc->S->Ends->Prop:=λC s D=>∀F σ H,SR C F (Γj s) σ H->D.nx σ H
end
section
variable {Γ:List Slot}{α β S T R:Type}{r:Rp α}{s:Rp β}{te:TE}{oa:Option α}{u t t':TS}{o o':Option T}{fin:Fc->T->Ends->Prop}
def BV.cast(h:BV Γ t o fin)(e:o'=o):BV Γ t o' fin:=e▸h
def aU(h:BV Γ (bC t la) o fin):BV Γ t o fin:=h
def eL(h:BV Γ (bC t<|bC t' u) o fin):BV Γ (bC (bC t t') u) o fin:=h
def be(h:BV Γ u o fin):BV Γ (bC la u) o fin:=h
def bv_sub(hs:SubL Γ Γ')(h:BV Γ' t o fin):BV Γ t o fin:=λC F σ H D x S e f=>by obtain⟨F',_,S'⟩:=S.weak hs;exact h C F' σ H D x S' e f
def aG{f:α->Option T}(i:Nat)(he:EV Γ te oa r)(h:∀a,BV (Γ.set i<|.fr r a) u (f a) fin):BV Γ (bC (ie te<|du i) u) (oa.bind f) fin:=by intro C F σ H D x S e k;obtain⟨a,e1,e⟩:=a8 e;exact he C F σ H _ a S e1 λv F' H' x1 r1=>h a C F' _ H' D x ((S.grow x1).setF i r1) e k
def dO{f:List α->Option T}(i:Nat)(he:iR Γ te ol r)(h:∀a,BV (Γ.set i<|.ol r jj a) u (f a) fin):BV Γ (bC (ie te<|du i) u) (ol.bind f) fin:=by intro C F σ H D x S e k;obtain⟨a,e1,e⟩:=a8 e;exact he C F σ H _ a S e1 λp vs F' H' x1 hp r1=>h a C F' _ _ D x ((S.grow x1).setO i hp rfl ⟨p,vs,rfl,trivial,(S.grow x1).keep.free hp,x1.sub.free hp,ae,r1⟩) e k
def sY{f:List (Int×α)->Option T}(i:Nat)(he:EVD Γ te ol r)(h:∀a,BV (Γ.set i<|.od r jj a) u (f a) fin):BV Γ (bC (ie te<|du i) u) (ol.bind f) fin:=by intro C F σ H D x S e k;obtain⟨a,e1,e⟩:=a8 e;exact he C F σ H _ a S e1 λp vs F' H' x1 hp r1=>h a C F' _ _ D x ((S.grow x1).setO i hp rfl ⟨p,vs,rfl,trivial,(S.grow x1).keep.free hp,x1.sub.free hp,ae,r1⟩) e k
def cD(hc:ET Γ tt oc)(h1:BV Γ (bC t u) o fin)(h2:BV Γ (bC t' u) o' fin):BV Γ (bC (tIfS tt t t') u) (oc.bind λb=>if b=Wd then o else o') fin:=by
 intro C F σ H D x S e k;obtain⟨b,e1,e⟩:=a8 e;refine hc C F σ H _ b S e1 λF' H' x1=>?_;cases b with
 |true=>exact h1 C F' σ H' D x (S.grow x1) e k
 |false=>exact h2 C F' σ H' D x (S.grow x1) e k
def yt{Γj:S->List Slot}{f:S->Option T}(h1:BV Γ t oj (finJ Γj))(h:∀s,BV (Γj s) u (f s) fin):BV Γ (bC t u) (oj.bind f) fin:=by intro C F σ H D x S e k;obtain⟨s,e1,e⟩:=a8 e;exact h1 C F σ H _ s S e1 λF' σ' H' S'=>h s C F' σ' H' D x S' e k
def lQ{Γj:S->List Slot}(st:S)(hs:SubL Γ (Γj st)):BV Γ la (Wb st) (finJ Γj):=λC F σ H D x S e k=>by cases e;obtain⟨F',_,S'⟩:=S.weak hs;exact k F' σ H S'
def b9(he:EV Γ te oa r):BV Γ (lg te) oa (nT r):=λC F σ H D x S e k=>he C F σ H _ x S e λv F' H' x1 r1=>k v F' H' (S.toFr.grow x1) r1
def dq(he:iR Γ te ol r):BV Γ (lg te) ol (finL r):=λC F σ H D x S e k=>he C F σ H _ x S e λp vs F' H' x1 hp r1=>k p vs F' H' (S.toFr.grow x1) hp r1
set_option tactic.hygienic true in
def lS{φ:ZJ}(i:Nat)(hi:Γ[i]?=Wb (.ol r φ xs)):BV Γ (lg<|bf i) (Wb xs) (finL r):=λC F σ H D x S e k=>by
 cases e;refine cz (S.at_ i _ hi) λp vs h1 h2 h3 h4 h5 h6=>?_;refine⟨.ref p,h1,?_⟩;have eH:H=aB (del H p) p (.lst vs):=by
  funext b;unfold aB del;split
  ·rename_i z;rw[z];exact h5
  ·rfl
 rw[eH];have sd:Sm C.H0 (del H p):=pe S.keep h3 h5 trivial;refine k p vs F (del H p) ⟨sd,S.low,λb o h=>?_,S.base,S.nt,yr S.tg h5 trivial⟩ bR h6;rw[b0 (ag h h4)];exact S.sub b o h
set_option tactic.hygienic true in
def Bz{φ:ZJ}(i:Nat)(hi:Γ[i]?=Wb (.od r φ xs)):BV Γ (lg<|bf i) (Wb xs) (finD r):=λC F σ H D x S e k=>by
 cases e;refine cz (S.at_ i _ hi) λp vs h1 h2 h3 h4 h5 h6=>?_;refine⟨.ref p,h1,?_⟩;have eH:H=aB (del H p) p (.dK vs):=by
  funext b;unfold aB del;split
  ·rename_i z;rw[z];exact h5
  ·rfl
 rw[eH];have sd:Sm C.H0 (del H p):=pe S.keep h3 h5 trivial;refine k p vs F (del H p) ⟨sd,S.low,λb o h=>?_,S.base,S.nt,yr S.tg h5 trivial⟩ bR h6;rw[b0 (ag h h4)];exact S.sub b o h
def cI(h:BV Γ (lg te) o fin):BV Γ (bC (lg te) u) o fin:=λC F σ H D x S e k=>h C F σ H D x S e k
def jQ{Γf:S->List Slot}{rf:Fc->R->Ends->Prop}(h:BV Γ (lg te) oR rf):BV Γ (lg te) (oR.bind λa=>Wb<|.rt a) (zG Γf rf):=λC F σ H D x S e k=>by obtain⟨a,e1,e⟩:=a8 e;cases e;exact h C F σ H D a S e1 k
def aW{Γf:S->List Slot}(st:S)(hs:SubL Γ (Γf st)):BV Γ la (Wb st) (zF Γf):=λC F σ H D x S e k=>by cases e;obtain⟨F',_,S'⟩:=S.weak hs;exact(k F' σ H S').1
def bv_cont{Γf:S->List Slot}(st:S)(hs:SubL Γ (Γf st)):BV Γ xO (Wb st) (zF Γf):=λC F σ H D x S e k=>by cases e;obtain⟨F',_,S'⟩:=S.weak hs;exact(k F' σ H S').2
def ju{Γf:S->List Slot}{rf:Fc->R->Ends->Prop}(st:S)(hs:SubL Γ (Γf st)):BV Γ la (Wb<|.nx st) (zG Γf rf):=λC F σ H D x S e k=>by cases e;obtain⟨F',_,S'⟩:=S.weak hs;exact(k F' σ H S').1
def bv_seqC(h:BV Γ xO o fin):BV Γ (bC xO u) o fin:=λC F σ H D x S e k=>h C F σ H D x S e k
end
end
section
open PySem PySem.Spec PyProof.Rows
variable [Kn:Kon]
section
variable {Γ:List Slot}{α β S T R:Type}{r:Rp α}{s:Rp β}{rb:Rp β}{ta tb te:TE}{oa:Option α}{K:Z1}{oi:ZK}{u t tl:TS}{o o':Option T}{fin:Fc->T->Ends->Prop}
def uK{Γf:S->List Slot}{Γt:S->β->List Slot}{body:S->β->Option (Ctl S R)}{rf:Fc->R->Ends->Prop}{f:S->Option T}{e:R->T}{st:S}(S2:SR C F2 (Γf st) σ H)(e0:andThen (ig body xs st) f e=Wb x)(k:fin C x D)(hw:∀i F3 s' σ H,SR {C with L:=F2} F3 (Γf s') σ H->J.stop xs.length H/\∀hi:i<xs.length,J.go i H/\∀v H',J.yld i H v H'->∃F4,Ext F3 H F4 H'/\rb.rel F4 v xs[i])(hg:∀s,GV (Γf s) m g rb (Γt s))(hb:∀s x,BV (Γt s x) tl (body s x) (zG Γf rf))(hr:RFin rf)(he:∀C x D,fin C (e x) D->rf C x D)(h:∀s,BV (Γf s) u (f s) fin):bC (ub (λa H R=>R J H) g tl) u D σ H:=by
 have L1:aL C.L F2:=S2.low;refine⟨λi m σ H=>∃F3 s',m=xs.length-i/\i<=xs.length/\SR {C with L:=F2} F3 (Γf s') σ H/\andThen (ig body (xs.drop i) s') f e=Wb x,⟨xs.length,F2,st,by simp,U2 _,S2.lower,by rw[List.drop_zero];exact e0⟩,?_⟩;rintro i m σ H ⟨F3,s',rfl,hil,S3,e3⟩;by_cases hlt:i<xs.length
 ·refine .inr ⟨((hw i F3 s' σ H S3).2 hlt).1,λσ' H'=>∃F3 s',i+1<=xs.length/\SR {C with L:=F2} F3 (Γf s') σ' H'/\andThen (ig body (xs.drop<|i+1) s') f e=Wb x,
   λσ' H' ⟨F3,s',h1,h2,h3⟩=>⟨xs.length-(i+1),by omega,F3,s',rfl,h1,h2,h3⟩,λv H' y=>?_⟩
  obtain⟨F4,x4,ra⟩:=((hw i F3 s' σ H S3).2 hlt).2 v H' y;rw[<- List.getElem_cons_drop (h:=hlt),ig]at e3;unfold andThen at e3;obtain⟨c1,e4,e5⟩:=a8 e3;obtain⟨c,e6,e7⟩:=a8 e4;refine hg s' _ F4 σ H' v xs[i] _ (S3.grow x4) ra λσ' S4 a=>?_;refine hb s' xs[i] _ F4 σ' H' _ c S4 e6 ?_;cases c with
  |nx s2 =>
   have e8:andThen (ig body (xs.drop<|i+1) s2) f e=Wb x:=by unfold andThen;rw[show ig body (xs.drop<|i+1) s2=Wb c1 from e7];exact e5
   exact λF5 σ5 H5 S5=>⟨⟨F5,s2,hlt,S5,e8⟩,⟨F5,s2,hlt,S5,e8⟩⟩
  |bk s2 =>cases e7;exact λF5 σ5 H5 S5=>h s2 C F5 σ5 H5 D x (S5.raise L1) e5 k
  |rt r2 =>cases e7;cases e5;exact hr.en<|hr.lo L1<|hr.en (nx:=u D) (bk:=D.bk) (ct:=D.ct)<|he C r2 D k
 ·have ei:i=xs.length:=by exact T9 hil<|W5.mp hlt
  subst ei;rw[List.drop_length,ig]at e3;exact .inl ⟨(hw 0 F3 s' σ H S3).1,h s' C F3 σ H D x (S3.raise L1) e3 k⟩
def Walks.at_{C:Fc}(W:Walks J F rb xs)(f2:aL F F2)(S3:SR {C with L:=F2} F3 Γ' σ H):J.stop xs.length H/\∀hi:i<xs.length,J.go i H/\∀v H',J.yld i H v H'->∃F4,Ext F3 H F4 H'/\rb.rel F4 v xs[i]:=by have fH:aL F H:=f2.trans<|S3.low.trans S3.sub;exact⟨W.stop H fH,λhlt=>⟨W.go i H fH hlt,λv H' y=>k7 (W.yld i H v H' F3 fH hlt y (f2.trans S3.low) S3.sub) λF4 a ha x4 ra=>⟨F4,x4,(Z6.mp ha).2▸ra⟩⟩⟩
def lT{Γf:S->List Slot}{Γt:S->β->List Slot}{body:S->β->Option (Ctl S R)}{rf:Fc->R->Ends->Prop}{f:S->Option T}{e:R->T}(st:S)(hi:IV Γ wi ox rb)(hs:SubL Γ (Γf st))(hg:∀s,GV (Γf s) m g rb (Γt s))(hb:∀s x,BV (Γt s x) tl (body s x) (zG Γf rf))(hr:RFin rf)(he:∀C x D,fin C (e x) D->rf C x D)(h:∀s,BV (Γf s) u (f s) fin):BV Γ (bC (ub wi g tl) u) (ox.bind λxs=>andThen (ig body xs st) f e) fin:=by intro C F σ H D x S0 e0 k;obtain⟨xs,e1,e0⟩:=a8 e0;exact hi C F σ H _ xs S0 e1 λJ F' H1 x1 W=>bN ((S0.grow x1).weak hs) λF2 f2 S2=>uK S2 e0 k (λi F3 s' σ H S3=>W.at_ f2 S3) hg hb hr he h
def BA{S β T:Type}{body:S->β->Option S}{f:S->Option T}{e:Empty->T}:∀(xs:List β) (st:S),(bB body xs st).bind f=andThen (ig (λs x=>(body s x).map .nx) xs st) f e:=by
 intro xs;induction xs with
 |nil=>exact λa=>rfl
 |cons x xs ih =>
  intro st;show ((body st x).bind λs=>bB body xs s).bind f=andThen (((body st x).map Ctl.nx).bind _) f e;cases body st x with
  |none=>rfl
  |some s=>exact ih s
def bv_nx{Γf:S->List Slot}{o:Option S}{rf:Fc->R->Ends->Prop}(h:BV Γ t o (zF Γf)):BV Γ t (o.map .nx) (zG Γf rf):=λC F σ H D y X e k=>bN (S7.mp e) λz e1 e2=>h C F σ H D z X e1 (by rw[<- e2]at k;exact k)
def rfE:Fc->Empty->Ends->Prop:=λa x a=>x.elim
def BB:RFin rfE:=⟨λ{_ _ x _}=>x.elim,λ{_ x _ _ _ _}=>x.elim⟩
def cw{Γf:S->List Slot}{Γt:S->β->List Slot}{body:S->β->Option S}{f:S->Option T}(st:S)(hi:IV Γ wi ox rb)(hs:SubL Γ (Γf st))(hg:∀s,GV (Γf s) m g rb (Γt s))(hb:∀s x,BV (Γt s x) tl (body s x) (zF Γf))(h:∀s,BV (Γf s) u (f s) fin):BV Γ (bC (ub wi g tl) u) (ox.bind λxs=>(bB body xs st).bind f) fin :=
 (lT (rf:=rfE) (e:=Empty.elim) st hi hs hg (λs x=>bv_nx<|hb s x) BB (λa x=>x.elim) h).cast (congrArg ox.bind (funext λxs=>BA xs st))
set_option tactic.hygienic true in
def uL{Γf:Wy->S->List Slot}{Γt:Wy->S->β->List Slot}{body:S->β->Option (Ctl S R)}{rf:Fc->R->Ends->Prop}{f:S->Option T}{e:R->T}(st:S)(j:Nat){φ:ZJ}(hj:Γ[j]?=Wb (.ol rb φ xs))(hs:∀p,SubL (Γ.set j<|.ol rb (λb=>b=p) xs) (Γf p st))(hjf:∀p s,(Γf p s)[j]?=Wb (.ol rb (λb=>b=p) xs))(hg:∀p s,GV (Γf p s) m g rb (Γt p s))(hb:∀p s x,BV (Γt p s x) tl (body s x) (zG (Γf p) rf))(hr:RFin rf)(he:∀C x D,fin C (e x) D->rf C x D)(h:∀p s,BV (Γf p s) u (f s) fin):BV Γ (bC (ub (lz K<|bf j) g tl) u) (andThen (ig body xs st) f e) fin:=by
 intro C F σ H D x S0 e0 k;refine cz (S0.at_ j _ hj) λp vs h1 h2 h3 h4 h5 h6=>?_;have S1:SR C F (Γ.set j<|.ol rb (λb=>b=p) xs) σ H:=by
  have eH:H=aB H p (.lst vs):=by
   funext b;unfold aB;split
   ·rename_i z;rw[z];exact h5
   ·rfl
  rw[eH];exact S0.chg hj rfl h1 h3 h4 rfl ⟨p,vs,rfl,rfl,h3,h4,ae,h6⟩
 obtain⟨F2,f2,S2⟩:=S1.weak<|hs p;refine⟨.ref p,h1,p,rfl,⟨vs,dj.of h5⟩,uK S2 e0 k (λi F3 s' σ H S3=>?_) (hg p) (hb p) hr he<|h p⟩;refine cz (S3.at_ j _<|hjf p s') λp3 vs3 k1 k2 k3 k4 k5 k6=>?_;cases k2;refine⟨⟨vs3,dj.of k5,by rw[k6.length];exact bW _⟩,λhlt=>bN (bO k6<|Z7 hlt) λw g1 g2=>⟨⟨vs3,w,dj.of k5,g1⟩,λv H' y=>⟨F3,?_⟩⟩⟩;rw[y.1,Z4 ((y.2 vs3<|dj.of k5).symm.trans g1)];exact⟨Ext.refl S3.sub,g2⟩
def sZ{Γf:S->List Slot}{tf:S->Option Bool}{body:S->Option S}{f:S->Option T}(n:Nat)(st:S)(hs:SubL Γ (Γf st))(ht:∀s,ET (Γf s) tt (tf s))(hb:∀s,BV (Γf s) tl (body s) (zF Γf))(h:∀s,BV (Γf s) u (f s) fin):BV Γ (bC (AG tt tl) u) ((nC tf body n st).bind f) fin:=by
 intro C F σ H D x S0 e0 k;obtain⟨F2,f2,S2⟩:=S0.weak hs;refine⟨λm σ H=>∃F3 s',SR C F3 (Γf s') σ H/\(nC tf body m s').bind f=Wb x,⟨n,F2,st,S2,e0⟩,?_⟩;rintro m σ H ⟨F3,s',S3,e3⟩;cases m with
 |zero=>exact VR e3 (by simp[nC])
 |succ m =>
  rw[nC]at e3;obtain⟨c1,e4,e5⟩:=a8 e3;obtain⟨b,e6,e7⟩:=a8 e4;refine ht s' C F3 σ H _ b S3 e6 λF4 H4 x4=>?_;cases b with
  |false =>rw[VQ Z3]at e7 ⊢;cases e7;exact h s' C F4 σ H4 D x (S3.grow x4) e5 k
  |true =>rw[VP rfl]at e7 ⊢;obtain⟨c,e8,e9⟩:=a8 e7;refine⟨λσ' H'=>∃F3 s',SR C F3 (Γf s') σ' H'/\(nC tf body m s').bind f=Wb x,λσ' H' ⟨F3,s',h1,h2⟩=>⟨m,by exact V3 _,F3,s',h1,h2⟩,hb s' C F4 σ H4 _ c (S3.grow x4) e8 ?_⟩;exact λF5 σ5 H5 S5=>⟨⟨F5,c,S5,by rw[e9];exact e5⟩,⟨F5,c,S5,by rw[e9];exact e5⟩⟩
section
variable {φ:ZJ}{xs:List α}{kvs:List (Int×α)}
set_option tactic.hygienic true in
theorem dh{f:List α->Option T}(i:Nat)(hi:Γ[i]?=Wb (.ol r φ xs))(he:EV Γ te oa r)(h:∀ys,BV (Γ.set i<|.ol r φ ys) u (f ys) fin):BV Γ (bC (nk<|tBM K "list" sE (bf i) (aK te bL)) u) (oa.bind λa=>(Pu.app xs a).bind f) fin:=by
 intro C F σ H D x S e k;obtain⟨a,e1,e⟩:=a8 e;obtain⟨ys,e2,e⟩:=a8 e;refine cz (S.at_ i _ hi) λp vs h1 h2 h3 h4 h5 h6=>?_;refine⟨.ref p,h1,.inl ⟨rfl,vs,dj.of h5⟩,he C F σ H _ a S e1 λv F' H' x1 r1=>?_⟩;have S':=S.grow x1;refine cz (S'.at_ i _ hi) λp' vs' q1 q2 q3 q4 q5 q6=>?_;rw[h1]at q1;cases q1;unfold Pu.app at e2;split at e2
 ·rename_i hl;cases e2;refine⟨p,vs',v,rfl,rfl,q5,by rw[q6.length,V0];exact hl,?_⟩;exact h _ C F' σ _ D x (S'.chg hi rfl h1 q3 q4 rfl ⟨p,_,rfl,q2,q3,q4,ae,Paired.app q6<|.cons r1 .nil⟩) e k
 ·cases e2
theorem bv_pop0{f:α->List α->Option T}(i j:Nat)(hi:Γ[i]?=Wb (.ol r φ xs))(hij:i≠j)(h:∀a ys,BV ((Γ.set i<|.ol r φ ys).set j (.fr r a)) u (f a ys) fin):BV Γ (bC (ie (tBM K "list" wy (bf i) (aK (tC<|.int 0) bL))<|du j) u) (match xs with|[]=>Wc|a ::ys=>f a ys) fin:=by
 intro C F σ H D x S e k;refine cz (S.at_ i _ hi) λp vs h1 h2 h3 h4 h5 h6=>?_;cases h6 with
 |nil=>cases e
 |@cons v a vs ys q6 q7 =>
  refine⟨.ref p,h1,.inl ⟨rfl,_,dj.of h5⟩,p,v ::vs,0,0,v,rfl,rfl,h5,by decide,by decide,?_,rfl,?_⟩
  ·unfold seqIndex?;simp
  ·exact h a ys C F _ _ D x ((S.chg (s':=.ol r φ ys) hi rfl h1 h3 h4 rfl ⟨p,_,rfl,h2,h3,h4,ae,q7⟩).setF j q6) e k
def jv(Γ:List Slot)(to:TE)(i:Nat):Prop:=∀C F σ H Q v,SR C F Γ σ H->σ[i]?=Wb (Wb v)->Q v H->to σ H Q
theorem yu(i:Nat):jv Γ (bf i) i:=λx x x x x v x h q=>⟨v,h,q⟩
theorem mM{f:List α->Option T}(i:Nat)(ho:jv Γ to i)(hi:Γ[i]?=Wb (.ol r φ xs))(hk:EV Γ tb oi a7)(he:EV Γ te oa r)(h:∀ys,BV (Γ.set i<|.ol r φ ys) u (f ys) fin):
  BV Γ (bC (ie te<|gSub to tb xZ) u) (oa.bind λa=>oi.bind λk=>(k9 xs.length k).bind λj=>f<|xs.set j a) fin:=by
 intro C F σ H D x S e k;obtain⟨a,e1,e⟩:=a8 e;obtain⟨n,e2,e⟩:=a8 e;obtain⟨j,e3,e⟩:=a8 e;refine he C F σ H _ a S e1 λv F' H' x1 r1=>?_;obtain⟨o,h1,_⟩:=S.at_ i _ hi;obtain⟨p,rfl⟩:∃p,o=Wb (.ref p):=by obtain⟨o',h1',p,vs,rfl,_⟩:=S.at_ i _ hi;rw[h1]at h1';exact⟨p,Z4 h1'⟩
 refine ho C F' σ H' _ (.ref p) (S.grow x1) h1 (hk C F' σ H' _ n (S.grow x1) e2 λw F2 H2 x2 r2=>?_);have S':=(S.grow x1).grow x2;refine cz (S'.at_ i _ hi) λp' vs' q1 q2 q3 q4 q5 q6=>?_;rw[h1]at q1;cases q1;refine⟨p,vs',n,j,rfl,r2,q5,by rw[q6.length];exact e3,?_⟩;exact h _ C F2 σ _ D x (S'.chg hi rfl h1 q3 q4 rfl ⟨p,_,rfl,q2,q3,q4,ae,Paired.setB (r.mono x2.ff r1) j q6⟩) e k
theorem lU{f:List α->Option T}(i:Nat)(hi:Γ[i]?=Wb (.ol r φ xs))(hk:EV Γ tb oi a7)(he:EV Γ te oa r)(h:∀ys,BV (Γ.set i<|.ol r φ ys) u (f ys) fin):
  BV Γ (bC (ie te<|gSub (bf i) tb xZ) u) (oa.bind λa=>oi.bind λk=>(k9 xs.length k).bind λj=>f<|xs.set j a) fin:=mM i (yu i) hi hk he h
set_option tactic.hygienic true in
theorem lV{f:List (Int×α)->Option T}(i:Nat)(ho:jv Γ to i)(hi:Γ[i]?=Wb (.od r φ kvs))(hk:EV Γ tb oi a7)(he:EV Γ te oa r)(h:∀ys,BV (Γ.set i<|.od r φ ys) u (f ys) fin):
  BV Γ (bC (B3 to tb te) u) (oa.bind λa=>oi.bind λk=>if kvs.length<16777216 then f (Pu.put kvs k a) else Wc) fin:=by
 intro C F σ H D x S e k;obtain⟨a,e1,e⟩:=a8 e;obtain⟨n,e2,e⟩:=a8 e;split at e
 case isFalse=>cases e
 rename_i hl;refine he C F σ H _ a S e1 λv F' H' x1 r1=>?_;obtain⟨o,h1,p,vs,rfl,_⟩:=S.at_ i _ hi;refine ho C F' σ H' _ (.ref p) (S.grow x1) h1 (hk C F' σ H' _ n (S.grow x1) e2 λw F2 H2 x2 r2=>?_);have S':=(S.grow x1).grow x2;refine cz (S'.at_ i _ hi) λp' vs' q1 q2 q3 q4 q5 q6=>?_;rw[h1]at q1;cases q1;cases r2;refine(eB p _ rfl (B1.k (k:=J2 n) q5 (by rw[q6.length,V0];exact hl)) ?_);exact h _ C F2 σ _ D x (S'.chg hi rfl h1 q3 q4 rfl ⟨p,_,rfl,q2,q3,q4,ae,wL (r.mono x2.ff r1) q6⟩) e k
theorem wQ{f:List (Int×α)->Option T}(i:Nat)(hi:Γ[i]?=Wb (.od r φ kvs))(hk:EV Γ tb oi a7)(he:EV Γ te oa r)(h:∀ys,BV (Γ.set i<|.od r φ ys) u (f ys) fin):
  BV Γ (bC (B3 (bf i) tb te) u) (oa.bind λa=>oi.bind λk=>if kvs.length<16777216 then f (Pu.put kvs k a) else Wc) fin:=lV i (yu i) hi hk he h
end
def yv:EVD Γ oY (Wb []) r:=λC F σ H Q kvs S e k=>by cases e;exact λp hp=>k p [] F H (Ext.refl S.sub) hp .nil
def evd_one(hk:EV Γ ta oi a7)(hv:EV Γ tb oa r):EVD Γ (tDisp [(ta,tb)]) (oi.bind λi=>oa.bind λa=>Wb [(i,a)]) r:=by
 intro C F σ H Q kvs S e k;obtain⟨i,e1,e⟩:=a8 e;obtain⟨a,e2,e⟩:=a8 e;cases e;intro p hp;have S1:=S.grow<|Ext.newH (o:=.dK []) S.sub hp;have go:ta σ (aB H p<|.dK []) λx H1=>tb σ H1 λy H2=>H2 p=Wb (.dK [])/\∃kvs:List (Key×V),[(x,y)]=kvs.map (λkv=>(kV kv.1,kv.2))/\kvs.length<=15/\Q (.ref p) (aB H2 p<|.dK<|kF [] kvs):=by
  refine EV.two (q:=λx y H2=>H2 p=Wb (.dK [])/\∃kvs:List (Key×V),[(x,y)]=kvs.map (λkv=>(kV kv.1,kv.2))/\kvs.length<=15/\Q (.ref p) (aB H2 p<|.dK<|kF [] kvs)) hk hv S1 e1 e2 λx y F' H' x1 r1 r2=>⟨x1.hh.kp p (.dK []) trivial ae,[(.inl i,y)],by rw[r1];rfl,by simp,?_⟩;have Fp:F p=Wc:=S.sub.free hp;have Fp':F' p=Wc:=by
   cases q:F' p with
   |none=>rfl
   |some o =>
    rcases x1.nw p o q with z|z
    ·rw[Fp]at z;cases z
    ·rw[ae]at z;cases z
  have eH:aB H' p (.dK<|kF [] [(J2 i,y)])=aB (del H' p) p (.dK [(J2 i,y)]):=by funext b;unfold aB del;split<;>rfl
  rw[eH];refine k p _ F' (del H' p) ⟨pe ((pc (o:=.dK []) hp trivial).trans x1.hh) hp (x1.hh.kp p (.dK []) trivial ae) trivial,x1.ff,λb o h=>?_,λb o h=>?_,x1.nt⟩ bR<|.cons ⟨rfl,r2⟩ .nil
  ·rw[b0 (ag h Fp')];exact x1.sub b o h
  ·rcases x1.nw b o h with z|z
   ·exact .inl z
   ·have n:b≠p:=by rintro rfl;rw[ae]at z;cases z
    rw[ah n]at z;exact .inr z
 exact go
end
section
variable {P:W7}{w:WB}{K:Z1}{mg:ZM}{base:WD}{x:Str}{st:WH}{N ps:ZL}{k:Nat}{τ γ:Type}{ra:RpA τ}{r:Rp γ}
def SR.begin_(sb:aL F H)(nt:NT F)(tg:TbG H)(h:ra.rel F vs a)(hn:N.length-vs.length=n):SR ⟨H,F,F⟩ F (ra.slots a++U8 n .any) (start N vs) H:=by
 obtain⟨l,g⟩:=ra.ok h;have noown:∀(i:Nat) s,(ra.slots a++U8 n .any)[i]?=Wb s->s.own=We:=λi s h=>by
  by_cases hi:i<(ra.slots a).length
  ·rw[W3 hi]at h;exact(g i s h).1
  ·rw[V1 (by exact W5.mp hi)]at h;have:=X6 h;rw[G3]at this;rw[this.2];rfl
 refine⟨⟨Sm.refl _,aL.refl _,sb,λb o h=>.inl h,nt,tg⟩,?_,λi s hs=>?_,λi j s t p h1 h2 o1 o2 x x=>?_⟩
 ·unfold start;rw[X4,X4,Z5,L5,L5,l,<- hn,l]
 ·unfold start;by_cases hi:i<(ra.slots a).length
  ·rw[W3 hi]at hs;obtain⟨_,v,g1,g2⟩:=g i s hs;exact(aD (Wb v) (by rw[W3 (by simp[l,hi]),Y3,g1];rfl)<|g2 H H)
  ·rw[V1 (by exact W5.mp hi)]at hs;have hm:=X6 hs;rw[G3]at hm;have hlt:=(Z6.mp hs).1;rw[L5]at hlt;rw[hm.2];exact(aD Wc (by rw[V1 (by simp;exact aO (bK l)<|W5.mp hi),Z5,List.getElem?_replicate,VP (by lia)]) trivial)
 ·rw[noown i s h1]at o1;cases o1
abbrev mN(P:W7)(w:WB)(K:Z1)(mg:ZM)(base:WD)(x:Str)(st:WH)(N:ZL)(k:Nat)(G:TS->Prop):Prop :=
 ∀(f:Wy) (ZP:Wx) (A:WE) (outer:List Env) (s:Ww) (H:Hp) (E:XK),Room k (A.deeper<|VD x (ao st) s.heap.objs.size f ZP)->∃t,nQ (lD sH P w K mg base N x (ao st) f ZP A outer s H E).nox (bb st) t/\G t
def bv.pV{f:τ->Option γ}(D:bv K mg x st ps)(S:FnScope N ps (ao st))(hl:∀a,(ra.slots a).length=ps.length)(hn:N.length-ps.length=n)(h:mN P w K mg base x st N k λt=>∀a,BV (ra.slots a++U8 n .any) t (f a) (nT r)):iu P w K mg base (k+1) x ps (nD ra r f):=by
 refine D.has S (λvs H Q E h=>?_) λfa ZP A outer s H vs Q E hr hsp=>?_
 ·obtain⟨F,a,c,_,_,_,h1,_⟩:=h;rw[(ra.ok h1).1,hl]
 ·obtain⟨t,h1,h2⟩:=h fa ZP A outer s H E hr;obtain⟨F,a,c,sb,nt,tg,hr',hf,q⟩:=hsp;refine(aD t h1<|h2 a _ F _ H _ c (SR.begin_ sb nt tg hr' (by rw[(ra.ok hr').1,hl];exact hn)) hf ?_);exact λv F' H' fr rv=>q v F' H' ⟨fr.keep,fr.low,fr.sub,fr.base,λb=>fr.nt⟩ rv
end
end
open PySem PySem.Spec PyProof.Rows
structure Dt{α:Type}[DecidableEq α](r:Rp α) where
 dat:α->PyData
 n:Nat
 ok:∀{K:Z1} {H v a},r.rel H v a->iE K H (dat a) v
 lay:∀a,(dat a).canLay0=Wd
 dep:∀a,(dat a).depth<=n
 eqv:∀a b,PyData.eqv (dat a) (dat b)=decide (a=b)
def dInt:Dt a7:=⟨.int,0,λh=>by unfold iE;exact h,λx=>by rw[PyData.canLay0],λx=>by rw[PyData.depth];exact bW _,λa b=>by rw[PyData.eqv,V6];simp⟩
def dOp:Dt (b8 a7):=⟨λa=>match a with|none=>.none|some i=>.int i,0,λ{K H v a} h=>by
  cases a with
  |none=>show iE K H PyData.none v;unfold iE;exact h
  |some i=>show iE K H (PyData.int i) v;unfold iE;exact h,
 λa=>by cases a<;>(show PyData.canLay0 _=Wd;rw[PyData.canLay0]),
 λa=>by cases a<;>(show PyData.depth _<=0;rw[PyData.depth];exact bW _),
 λa b=>by cases a<;>cases b<;>(show PyData.eqv _ _=_;rw[V6];simp[PyData.eqv])⟩
section
variable {α β γ:Type}[DecidableEq α][DecidableEq β][DecidableEq γ]{r:Rp α}{s:Rp β}{q:Rp γ}
def BC{K:Z1}(d:Dt r):∀{vs:List V} {xs:List α},Paired (r.rel H) vs xs->jq K H (xs.map d.dat) vs:=λp=>by
 induction p with
 |nil=>unfold jq;rfl
 |cons h _ ih=>rw[V7];unfold jq;exact(eB _ _ rfl (d.ok h) ih)
def layAll(d:Dt r):∀xs:List α,PyData.canLayAll0 (xs.map d.dat)=Wd:=by
 intro xs;induction xs with
 |nil=>exact PyData.canLayAll0.eq_1
 |cons x xs ih=>rw[V7,PyData.canLayAll0,ih,d.lay];rfl
def depAll(d:Dt r):∀xs:List α,PyData.depthAll (xs.map d.dat)<=d.n:=by
 intro xs;induction xs with
 |nil=>rw[List.map_nil,PyData.depthAll];exact U2 _
 |cons x xs ih=>rw[V7,PyData.depthAll];exact Nat.max_le.mpr ⟨d.dep x,ih⟩
def zH(d:Dt r):∀xs ys:List α,E2 (xs.map d.dat) (ys.map d.dat)=decide (xs=ys):=by
 intro xs;induction xs with
 |nil=>intro ys;cases ys<;>simp[E2]
 |cons x xs ih =>intro ys;cases ys with|nil=>simp[E2]|cons y ys=>?_;rw[V7,V7,E2,ih ys,d.eqv];by_cases h:x=y<;>by_cases h':xs=ys<;>simp[h,h']
def dL(d:Dt r):Dt (rL r):=⟨λxs=>.list<|xs.map d.dat,d.n+1,λ{K H v a} h=>by obtain⟨p,vs,rfl,h1,h2⟩:=h;unfold iE;exact(eB p vs rfl (.inl h1)<|BC d h2),
 λa=>by rw[PyData.canLay0];exact layAll d a,λa=>by rw[PyData.depth];have:=depAll d a;exact dM this<|V3 _,λa b=>by rw[PyData.eqv];exact zH d a b⟩
def dT3(d:Dt r)(e:Dt s)(f:Dt q):Dt (qp r s q):=⟨λx=>.tuple [d.dat x.1,e.dat x.2.1,f.dat x.2.2],max d.n (max e.n f.n)+1,λ{K H v a} h=>by obtain⟨p,x,y,z,rfl,h1,h2,h3,h4⟩:=h;unfold iE;refine(eB p _ rfl (l9.of h1) ?_);unfold jq;refine(eB _ _ rfl (d.ok h2) ?_);unfold jq;refine(eB _ _ rfl (e.ok h3) ?_);unfold jq;refine(eB _ _ rfl (f.ok h4) ?_);unfold jq;rfl,
 λa=>by simp[PyData.canLay0,PyData.canLayAll0,d.lay,e.lay,f.lay],λa=>by have:=d.dep a.1;have:=e.dep a.2.1;have:=f.dep a.2.2;simp[PyData.depth,PyData.depthAll];omega,λa b=>by rw[PyData.eqv,E2,E2,E2,E2,d.eqv,e.eqv,f.eqv,V6];obtain⟨a1,a2,a3⟩:=a;obtain⟨b1,b2,b3⟩:=b;simp⟩
def ev_eqD[Kn:Kon]{Γ:List Slot}{K:Z1}{ta tb:TE}{oa ob:Option α}(d:Dt r)(ha:EV Γ ta oa r)(hb:EV Γ tb ob r)(hn:autoParam (d.n<=60) gR._auto_1):EV Γ (iQ (rEqD K) ta tb) (oa.bind λa=>ob.bind λb=>Wb<|decide<|a=b) aX :=
 lL (r:=r) (s:=r) (λF H x y a b c Q sb r1 r2 e k=>by
  cases e;refine⟨_,_,d.ok<|r.mono sb r1,d.ok<|r.mono sb r2,d.lay _,d.lay _,?_,?_⟩
  ·have:=d.dep a;lia
  ·rw[d.eqv];exact k _ rfl) ha hb
def t5[Kn:Kon]{Γ:List Slot}{K:Z1}{ta tb:TE}{oa ob:Option α}(d:Dt r)(ha:EV Γ ta oa r)(hb:EV Γ tb ob r)(hn:autoParam (d.n<=60) gR._auto_1):EV Γ (iQ (rNeD K) ta tb) (oa.bind λa=>ob.bind λb=>Wb<|!decide (a=b)) aX :=
 lL (r:=r) (s:=r) (λF H x y a b c Q sb r1 r2 e k=>by
  cases e;refine⟨_,_,d.ok<|r.mono sb r1,d.ok<|r.mono sb r2,d.lay _,d.lay _,?_,?_⟩
  ·have:=d.dep a;omega
  ·rw[d.eqv];exact k _ rfl) ha hb
end
section
variable [Kn:Kon]
section
variable {Γ:List Slot}{α:Type}{r:Rp α}{ta tb tc:TE}{ox:ZK}{n m v:Int}
def ft(ha:EV Γ ta ox a7)(hb:EV Γ tb (Wb n) a7)(hn:0<n):EV Γ (iQ (rI (λx j=>0<j) λi j=>.int<|i%j) ta tb) (ox.bind λa=>Wb<|a%n) a7 :=
 (js ha hb).cast (by unfold fmod;simp[hn])
def lW(ha:EV Γ ta ox a7)(hb:EV Γ tb (Wb n) a7)(hn:0<n/\n<2^64):EV Γ (iQ (rI (λx j=>0<j/\j<2^64) λi j=>.int<|i/j) ta tb) (ox.bind λa=>Wb<|a/n) a7 :=
 (iX ha hb).cast (by unfold mI;simp only[fE,VP hn])
def jR(ha:EV Γ ta ox a7)(hb:EV Γ tb (Wb n) a7)(hn:-(2^64)<n/\n<2^64):EV Γ (iQ (rI z9 λi j=>.int<|i*j) ta tb) (ox.bind λa=>Wb<|a*n) a7 :=
 (iy ha hb).cast (by
  have e:∀a,mul a n=Wb (a*n):=λa=>VP<|.inr hn;simp only[fE,e])
def pA(ha:EV Γ ta (Wb n) a7)(hb:EV Γ tb ox a7)(hn:-(2^64)<n/\n<2^64):EV Γ (iQ (rI z9 λi j=>.int<|i*j) ta tb) (ox.bind λa=>Wb<|n*a) a7 :=
 (iy ha hb).cast (by
  have e:∀a,mul n a=Wb (n*a):=λa=>VP<|.inl hn;simp only[fE,e])
def iY(ha:EV Γ ta (Wb n) a7)(hb:EV Γ tb (Wb m) a7)(h:pow n m=Wb v):EV Γ (iQ (rI CPow λi j=>.int<|i^j.toNat) ta tb) (Wb v) a7 :=
 (ev_pow ha hb).cast (by simp only[fE,h])
section
variable {t u:TT}{a b:Bool}
def t6(h:ET Γ t (Wb a))(h':ET Γ u (Wb b)):ET Γ (tAnd t u) (Wb<|a&&b):=by have:=sV h h';cases a<;>exact this
def mO(h:ET Γ t (Wb a))(h':ET Γ u (Wb b)):ET Γ (tOr t u) (Wb (a || b)):=by have:=uG h h';cases a<;>exact this
def t8(h:EV Γ ta (Wb a) aX)(h':EV Γ tb (Wb b) aX):EV Γ (AC ta tb) (Wb<|a&&b) aX:=by have:=Br h h';cases a<;>exact this
def ev_orT(h:EV Γ ta (Wb a) aX)(h':EV Γ tb (Wb b) aX):EV Γ (tOrV ta tb) (Wb (a || b)) aX:=by have:=ev_or h h';cases a<;>exact this
def ev_ifxT(ht:ET Γ t (Wb a))(ha:EV Γ ta (Wb x) r)(hb:EV Γ tb (Wb y) r):EV Γ (tIf t ta tb) (Wb (if a=Wd then x else y)) r:=by have:=Bs ht ha hb;cases a<;>exact this
def mP{g g':Int->Int->Bool}(ha:EV Γ ta (Wb x) a7)(hb:EV Γ tb (Wb y) a7)(hc:EV Γ tc (Wb z) a7):EV Γ (sv (uc λi j=>.bl<|g i j) (uc λi j=>.bl<|g' i j) ta tb tc) (Wb<|g x y&&g' y z) aX :=
 (Bq ha hb hc).cast (by simp only[fE];cases g x y<;>rfl)
end
end
def wR(K:Z1):Sp:=λvs H Q x=>∃(a:Wy) (ns:ZW),vs=[.ref a]/\Ints K H a ns/\ns.length<=63/\TbG H/\∀H',Q (.bl Wd) H'
def paired_ints:∀ns:List Int,Paired (a7.rel H) (ns.map V.int) ns:=by
 intro ns;induction ns with
 |nil=>exact .nil
 |cons _ _ ih=>exact .cons rfl ih
def ntF(H:Hp):Hp:=λb=>match H b with
 |some (.tbl _)=>Wc
 |x=>x
set_option tactic.hygienic true in
def uM(h:ntF H b=Wb o):H b=Wb o/\fI o:=by
 unfold ntF at h;split at h
 ·cases h
 ·rename_i x hx;refine⟨h,?_⟩;cases o with
  |tbl ps=>exact VR h<|hx ps
  |_=>trivial
set_option tactic.hygienic true in
def BD(h:H b=Wb o)(n:fI o):ntF H b=Wb o:=by
 unfold ntF;split
 ·rename_i ps e;rw[h]at e;cases e;exact n.elim
 ·exact h
def ntF_seq{K:Z1}(h:dj K H a xs):dj K (ntF H) a xs:=by
 rcases h with (h|⟨o,h⟩)|h
 ·exact .inl<|.inl<|BD h trivial
 ·exact .inl<|.inr ⟨o,BD h trivial⟩
 ·exact .inr h
def Fun.law{K:Z1}{mg:ZM}{st:WH}{fl:List Int->Option Bool}(F:Fun K "law" "law" st f fd)(S:FnScope N [p] (ao st))(hn:N.length-1=n)(hl:∀ns,ns.length<=63->fl ns=Wb Wd)(h:mN P w K mg base "law" st N k λt=>∀a,BV ((bo<|mH K).slots a++U8 n .any) t (fl a) (nT aX)):FnOk P w K mg base sH (k+1) f fd [p] (wR K):=by
 refine F.ok S (λvs H Q E h=>?_) λZP A outer s H vs Q E hr hsp=>?_
 ·obtain⟨a,ns,rfl,_⟩:=h;rfl
 ·obtain⟨t,h1,h2⟩:=h f ZP A outer s H E hr;obtain⟨a,ns,rfl,hS,hlen,tg,q⟩:=hsp;refine(aD t h1<|h2 ns _ (ntF H) _ H _ Wd (SR.begin_ (ra:=bo<|mH K) (λb o h=>(uM h).1) (λb ps h=>(uM h).2) tg ⟨.ref a,rfl,a,_,rfl,ntF_seq hS,paired_ints ns⟩ hn) (hl ns hlen) ?_);intro v F' H' _ rv;cases rv;exact q H'
end
end L2

namespace Pu
def lX(ns:ZW):List Int:=ns.mergeSort λa b=>decide<|a<=b
def cO(ns:ZW):(lX ns).Perm ns:=O5 _ _
def eV(ns:ZW):(lX ns).Pairwise (·<=·):=by have h:=N4 (le:=λa b:Int=>decide<|a<=b) (λa b c h1 h2=>by simp at *;exact Int.le_trans h1 h2) (λa b=>by simp;lia) ns;exact h.imp λh=>by simpa using h
def sortI(ns:ZW):Option (List Int):=if ns.length<64 then Wb (lX ns) else Wc
def dZ(a b:ZA):Bool:=decide<|a.1<b.1\/a.1=b.1/\a.2<b.2
def nU(a b:ZA):Bool:=decide<|a.1<b.1\/a.1=b.1/\a.2<=b.2
def lY(ps:ZF):List (Int×Int):=ps.mergeSort nU
def pC(ps:ZF):Option (List<|Int×Int):=if ps.length<64/\ps.Nodup then Wb (lY ps) else Wc
def jS(ps:ZF):(lY ps).Perm ps:=O5 _ _
def mQ(a b c:ZA)(h1:nU a b=Wd)(h2:nU b c=Wd):nU a c=Wd:=by unfold nU at *;simp only[VS]at *;lia
def mR(a b:ZA):(nU a b || nU b a)=Wd:=by unfold nU;simp only[Bool.or_eq_true,VS];lia
def jw(ps:ZF):(lY ps).Pairwise λa b=>nU a b=Wd:=N4 mQ mR ps
def uN(h1:nU a b=Wd)(h2:nU b a=Wd):a=b:=by
 unfold nU at *;simp only[VS]at *;obtain⟨a1,a2⟩:=a;obtain⟨b1,b2⟩:=b;simp only at *;have e1:a1=b1:=by lia
 have e2:a2=b2:=by lia
 rw[e1,e2]
def dD{α:Type}{le:α->α->Prop}(anti:∀a b,le a b->le b a->a=b){l m:List α}(hp:l.Perm m)(hl:l.Pairwise le)(hm:m.Pairwise le):l=m :=
 hp.eq_of_pairwise (λa b x x h1 h2=>anti a b h1 h2) hl hm
end Pu

namespace L2
open Pu
section
open PySem PySem.Spec PyProof.Rows
variable [Kn:Kon]
def iZ:∀{vs:ZO},aS (ns.map V.int) vs->L4 vs ns:=by
 induction ns with
 |nil=>intro vs h;cases h;exact .nil
 |cons n ns ih =>
  intro vs h;cases h with
  |cons r t=>obtain⟨k,rfl⟩:=r;exact .cons n k<|ih t
section
variable {X:Cx}{K:Z1}
def BE(K:Z1):List V->Hp->VK->Prop:=λxs H Q=>∃p ns,xs=[.ref p]/\dj K H p (ns.map V.int)/\ns.length<64/\∀q,H q=Wc->Q (.ref q) (aB H q<|.lst<|(lX ns).map V.int)
def ot(h:X.K=K)(hu:X.A.units+64<WO):kh X (R8 .NotEq) (rNeD K):=by subst h;intro ZY s σ H x y v u Q I rx ry h;obtain⟨dx,dy,h1,h2,c1,c2,dp,q⟩:=h;obtain⟨as,ra⟩:=iE.reads I h1 rx;obtain⟨bs,rb⟩:=iE.reads I h2 ry;exact SeqAt.compareNe_reads ra rb c1 c2 (by lia) ⟨.bl _,H,I,rfl,q⟩
def wU(h:X.K=K):eG X (.builtin "sorted") (BE K):=by
 subst h;intro ZY s σ H xs us Q I r hh;obtain⟨p,ns,rfl,hS,ZQ,q⟩:=hh;obtain⟨u,rfl,ru⟩:=vals1 r;cases ru;obtain⟨Wj,rv,ht,hz⟩:=I.list hS;have hl:=rv.length;rw[Z5]at hl;refine sorted_ints ht.isList (iZ rv) (by exact dM (bK hl.symm) ZQ) λout ns' a1 a2 a3=>?_;have e:ns'=lX ns:=PySem.W.ksm_same (a2.trans (cO ns).symm) a3<|eV ns;subst e;obtain⟨ep,hat⟩:=sortedAll_at s.heap Wj out;refine⟨.ref _,_,I.laid (t':=s.toks) (o:=.lst<|(lX ns).map V.int) (λb ob q=>sortedAll_old q) (R6 _) ⟨?_,out.toList,ep,iD a1,?_⟩,rfl,q _<|I.hok.fresh<|R6 _⟩
 ·rw[Z5,(cO ns).length_eq,V0];exact cj<|fD ZQ (by decide)
 ·rw[hat]
end
section
variable {prog:W7}{w:WB}{A:WE}{E:ZU}{s:Ww}{κ:SortKind}{c:Zw}{vs:ZO}
open PySem.W
def gb(vs:ZO)(p:Zr):Array Wx:=U4 (p.toList.map λi=>vs.getD i J9)
def pD(p:Zr):(gb vs p).size=p.size:=by unfold gb;simp
def qC{P:PySem.Fin->Ww->Prop}(ho:s.heap.get? a=Wb (VB "list" vs.toArray n))(ZQ:vs.length<64)(L:Srt.Lin c vs.length)(hk:2<=vs.length->∀h':WD,(∀b o,b≠a->s.heap.get? b=Wb o->h'.get? b=Wb o)->∀Q':SortKind->Ww->Prop,Q' κ {s with heap:=h'}->Wz (WA prog w) A (keyKind' vs.toArray) Q' E {s with heap:=h'})(hc:∀h':WD,(∀b o,b≠a->s.heap.get? b=Wb o->h'.get? b=Wb o)->∀i j C,i<vs.length->j<vs.length->C (c i j) {s with heap:=h'}->kas_ask prog w A κ vs i j C {s with heap:=h'})(h:∀p,Srt.Arr vs.length p->Srt.Up c p vs.length->P (.done<|.ret .none) {s with heap:=sortedHeap s.heap a vs (gb vs p)}):
  Wz (WA prog w) A (Q7.«list.sort» ⟨[.ref a],[]⟩) P E s:=by
 have ha:a<s.heap.objs.size:=Y4 ho;obtain⟨e1,ho1⟩:∃e1,(s.heap.update a (X0 λx=>(#[]:Array Wx))).get? a=Wb (VB "list" #[] e1):=⟨_,M7 ho λx=>#[]⟩;generalize hh3:((s.heap.update a (X0 λx=>(#[]:Array Wx))).push (VB "tuple" vs.toArray 0)).push (VB "list" #[] 0)=h3;have ho6:h3.get? a=Wb (VB "list" #[] e1):=by rw[<- hh3];exact Z2 _<|Z2 _ ho1
 have keep:∀b o,b≠a->s.heap.get? b=Wb o->h3.get? b=Wb o:=λb o nb q=>by rw[<- hh3];refine Z2 _<|Z2 _ ?_;rw[W9 _ _ _ _ nb];exact q
 have fin:∀p,Srt.Arr vs.length p->Srt.Up c p vs.length->P (.done<|.ret .none) {s with heap:=h3.update a (X0 λx=>gb vs p)}:=λp a1 a2=>by rw[<- hh3];exact h p a1 a2
 rw[list_sort_plain];refine Z0<|listItems_at ho rfl ?_;refine Z0<|VC ho rfl ?_ (by rw[Y6,V0];exact cj<|fD ZQ (by decide))<|U2 _;refine Z0<|VL ho1 rfl ?_;refine Z0<|wpAny_newTuple ?_ (by show vs.length<=_;rw[V0];exact cj<|fD ZQ (by decide));refine Z0<|E3 ?_<|U2 _;refine T7 ?_;show Wz (WA prog w) A _ P E {s with heap:=((s.heap.update a (X0 λx=>(#[]:Array Wx))).push (VB "tuple" vs.toArray 0)).push (VB "list" #[] 0)};rw[hh3];dsimp only;have hsz:vs.toArray.size=vs.length:=by simp
 by_cases h2:vs.toArray.size<2
 ·rw[VP h2,VP h2];refine Z0<|Z8 ?_;rw[StateT.run_pure];refine Z0<|Z8 ?_;dsimp only;refine Z0<|VL ho6 rfl ?_;refine Z0<|VC ho6 rfl ?_ (U2 _) (by rw[Array.size_map];show (pairsOf vs).size<=_;rw[pairsOf_size,V0];exact K3<|cj<|fD ZQ (by decide));simp only[bne_self_eq_false,Q9,if_false];have ep:(arrOf<|SortSt.mk' general' (vs.toArray.zip vs.toArray) #[] 7 Wc).map (·.2)=gb vs (U4<|Z9 vs.length):=by
   have e:=kas_range<|pairsOf vs;rw[pairsOf_size]at e;show (pairsOf vs).map (·.2)=_
   conv=>lhs;rw[<- e]
   unfold gb;apply Array.toList_inj.mp;rw[Array.map_map,Array.toList_map];exact U1 λi x=>by show (kas_item (pairsOf vs) i).2=_;rw[kas_item_eq]
  refine Z8 ?_;rw[ep];exact fin _ ⟨by simp,by simp⟩ λi j hij hj=>by lia
 ·rw[VQ h2,VQ h2];have h2':2<=vs.length:=by exact aO (W5.mp h2)<|bK hsz
  refine Z0<|hk h2' h3 keep _ ?_;have ok:=Srt.yc (c:=c) (n:=vs.length) L (by lia);refine Z0 (T8 (kat_run (κ:=κ) (Q:=λst' s'=>s'={s with heap:=h3}/\∃p:Array Nat,Srt.Arr vs.length p/\Srt.Up c p vs.length/\arrOf st'=p.map (kas_item<|vs.toArray.zip vs.toArray)/\failedOf st'=Wc)
   (G:=λp s'=>s'={s with heap:=h3}/\Srt.Arr vs.length p/\Srt.Up c p vs.length) rfl h2' ZQ (λp st' s' x b2 b3 b4=>⟨b4.1,p,b4.2.1,b4.2.2,b2,b3⟩) (Srt.Ok.wp (hc h3 keep) (λp hp=>⟨rfl,hp⟩) ok)) ?_ λx x e=>e)
  rintro⟨⟨⟩,st'⟩ s' ⟨rfl,p,b1,b2,b3,b4⟩;dsimp only;have hout:(arrOf st').map (·.2)=gb vs p:=kat_snds rfl b3;rw[hout];refine Z0<|VL ho6 rfl ?_;refine Z0<|VC ho6 rfl ?_ (U2 _) (by rw[pD,b1.sz,V0];exact K3<|cj<|fD ZQ (by decide));rw[b4];simp only[bne_self_eq_false,Q9,if_false];exact Z8<|fin p b1 b2
def wV{Q:ZU}(hl:s.heap.IsList l vs.toArray)(ZQ:vs.length<64)(L:Srt.Lin c vs.length)(hk:2<=vs.length->∀h':WD,(∀b o,s.heap.get? b=Wb o->h'.get? b=Wb o)->∀Q':SortKind->Ww->Prop,Q' κ {s with heap:=h'}->Wz (WA prog w) A.in1.in1 (keyKind' vs.toArray) Q' E {s with heap:=h'})(hc:∀h':WD,(∀b o,s.heap.get? b=Wb o->h'.get? b=Wb o)->∀i j C,i<vs.length->j<vs.length->C (c i j) {s with heap:=h'}->kas_ask prog w A.in1.in1 κ vs i j C {s with heap:=h'})(h:∀p,Srt.Arr vs.length p->Srt.Up c p vs.length->Q (.ref<|s.heap.objs.size+1) {s with heap:=sortedAll s.heap vs (gb vs p)}):
  Wz (WA prog w) A (call (.builtin "sorted") [.ref l]) Q E s:=by
 refine Calls.call_function_entry kind_sorted VN VO (args_sorted1 _) ?_;unfold Q7.«sorted»;refine Z0 (m:=checkCount "sorted" 1 1 _)<|Z8 ?_;refine Z0<|collect_list hl ?_ (by rw[V0];exact cj<|fD ZQ (by decide));refine Z0<|E3 ?_ (by rw[V0];exact cj<|fD ZQ (by decide));have hsz:((s.heap.push<|VB "list" #[] 0).update s.heap.objs.size (X0 (·++vs.toArray))).objs.size=s.heap.objs.size+1:=by rw[Heap.size_update,VF]
 have hoL:(((s.heap.push<|VB "list" #[] 0).update s.heap.objs.size (X0 (·++vs.toArray))).push (VB "list" vs.toArray 0)).get? (s.heap.objs.size+1)=Wb (VB "list" vs.toArray 0):=by rw[<- hsz];exact Y7 _ rfl
 have keep:∀b o,s.heap.get? b=Wb o->b≠s.heap.objs.size+1/\(((s.heap.push<|VB "list" #[] 0).update s.heap.objs.size (X0 (·++vs.toArray))).push (VB "list" vs.toArray 0)).get? b=Wb o:=λb o q=>by have hlt:b<s.heap.objs.size:=Y4 q;refine⟨eP<|T6 hlt,Z2 _ ?_⟩;rw[W9 _ _ _ _ (eP hlt)];exact Z2 _ q
 show Wz _ _ _ _ _ {s with heap:=((s.heap.push<|VB "list" #[] 0).update s.heap.objs.size (X0 (·++vs.toArray))).push (VB "list" vs.toArray 0)};rw[hsz];refine Z0 (T7 (O3 VH ⟨_,hoL,rfl⟩ VG
  (qC (s:={s with heap:=((s.heap.push<|VB "list" #[] 0).update s.heap.objs.size (X0 (·++vs.toArray))).push (VB "list" vs.toArray 0)}) hoL ZQ L
   (λh2 h' k=>hk h2 h' λb o q=>k b o (keep b o q).1 (keep b o q).2) (λh' k=>hc h' λb o q=>k b o (keep b o q).1 (keep b o q).2) λp a1 a2=>(aD _ rfl ?_)) (args_list_sort _)))
 exact Z8<|aD _ rfl<|h p a1 a2
end
section
variable {X:Cx}{K:Z1}
open PySem.W
def pE(a b:ZA):HT.lexLt [a.1,a.2] [b.1,b.2]=dZ a b:=by
 unfold dZ HT.lexLt HT.lexLt HT.lexLt;by_cases h:a.1=b.1
 ·rw[VP h];by_cases h':a.2=b.2
  ·rw[VP h',V6];simp;lia
  ·rw[VQ h',V6];simp;lia
 ·rw[VQ h,V6];simp;lia
def j0(h:WD)(vs:ZO)(ps:ZF):Prop:=Paired (λv p=>∃a o xs n t u,v=U6 a/\h.get? a=Wb o/\o.cls=.type "tuple"/\o.data=.seq xs n/\xs=#[P3 p.1 t,P3 p.2 u]) vs ps
def j0.kept(p:j0 h vs ps)(k:∀b o,h.get? b=Wb o->h'.get? b=Wb o):j0 h' vs ps:=Paired.imp2 (λ_ _ ⟨a,o,xs,n,t,u,e1,e2,e3⟩=>⟨a,o,xs,n,t,u,e1,k _ _ e2,e3⟩) p
def j0.tups:∀{vs:ZO} {ps:ZF},j0 h vs ps->∃fs,KatTups h vs fs/\fs.length=ps.length/\∀v∈fs,∃i t,v=P3 i t:=λp=>by
 induction p with
 |nil=>exact(eD ([]) trivial rfl λx h=>nomatch h)
 |cons z r ih =>
  obtain⟨a,o,xs,n,t,u,e1,e2,e3,e4,e5⟩:=z;obtain⟨fs,g1,g2,g3⟩:=ih;subst e1 e5;refine(eD (_ ::fs) (KatTups.cons e2 e3 e4 rfl g1) (by simp[g2]) λv hv=>?_);rcases Y1.mp hv with rfl|hv
  ·exact⟨_,_,rfl⟩
  ·exact g3 v hv
def yw{x y:ZA}(h:x.1=y.1):dZ x y=decide (x.2<y.2):=by unfold dZ;rw[h];simp
def wW{x y:ZA}(h:x.1=y.1)(h2:x.2=y.2):dZ x y=We:=by rw[yw h,h2];exact VW<|Int.lt_irrefl _
def lt2_fst{x y:ZA}(h:x.1≠y.1):dZ x y=decide (x.1<y.1):=by unfold dZ;simp[h]
def rp(p:j0 s.heap vs ps){C:Zj}(hi:i<vs.length)(hj:j<vs.length)(h:C (dZ (ps.getD i (0,0))<|ps.getD j (0,0)) s):
  kas_ask prog w A (tuples' Wd) vs i j C s:=by
 have hl:vs.length=ps.length:=Paired.length p;have at':∀k,k<vs.length->∃a o xs n t u,vs.getD k J9=U6 a/\s.heap.get? a=Wb o/\o.data=.seq xs n/\xs=#[P3 (ps.getD k (0,0)).1 t,P3 (ps.getD k (0,0)).2 u]:=λk hk=>by
  have zq:=cY p<|Z7 hk;obtain⟨y,e,a,o,xs,n,t,u,e1,e2,e3,e4,e5⟩:=zq;have h1:vs.getD k J9=vs[k]:=by simp[hk]
  have h2:ps.getD k (0,0)=y:=by simp[e]
  rw[h1,h2];exact⟨a,o,xs,n,t,u,e1,e2,e4,e5⟩
 obtain⟨a,o,xs,n,t,u,e1,e2,e3,e4⟩:=at' i hi;obtain⟨a',o',xs',n',t',u',f1,f2,f3,f4⟩:=at' j hj;unfold kas_ask;rw[e1,f1];generalize ps.getD i (0,0)=x at *;generalize ps.getD j (0,0)=y at *;subst e4 f4;refine kat_lt e2 e3 f2 f3 ?_;refine kat_cons<|Vz ?_;have second:x.1=y.1->KatLex prog w A Wd (decide<|(#[P3 x.1 t,P3 x.2 u]:Array Wx).size<(#[P3 y.1 t',P3 y.2 u']:Array Wx).size) C [(P3 x.2 u,P3 y.2 u')] 1 s:=λh1=>by
  refine kat_cons<|Vz ?_;by_cases h2:x.2=y.2
  ·rw[show (x.2==y.2)=Wd by simpa using h2];refine kat_yes<|kat_nil ?_;have e:dZ x y=We:=wW h1 h2;rw[e]at h;exact h
  ·rw[show (x.2==y.2)=We by simpa using h2];refine kat_no<|kat_one _ _ ?_;refine lt_int ?_;have e:dZ x y=decide (x.2<y.2):=yw h1;rw[e]at h;exact h
 by_cases h1:x.1=y.1
 ·rw[show (x.1==y.1)=Wd by simpa using h1];exact kat_yes<|second h1
 ·rw[show (x.1==y.1)=We by simpa using h1];refine kat_no ?_;refine oneLt_int ?_;have e:dZ x y=decide (x.1<y.1):=lt2_fst h1;rw[e]at h;exact h
def rq{ps:ZF}(hn:ps.Nodup):Srt.Lin (λi j=>dZ (ps.getD i (0,0))<|ps.getD j (0,0)) ps.length:=by
 refine⟨λi a=>?_,λi j k a a a h1 h2=>?_,λi j hi hj Wr h=>?_⟩
 ·unfold dZ;rw[VT];lia
 ·unfold dZ at *;rw[VS]at *;lia
 ·have ne:ps.getD i (0,0)≠ps.getD j (0,0):=by
   intro e;have e1:ps.getD i (0,0)=ps[i]:=by simp[hi]
   have e2:ps.getD j (0,0)=ps[j]:=by simp[hj]
   rw[e1,e2]at e;exact Wr<|(List.getElem_inj hn).mp e
  generalize ps.getD i (0,0)=x at *;generalize ps.getD j (0,0)=y at *;unfold dZ at *;rw[VT]at h;rw[VS];obtain⟨x1,x2⟩:=x;obtain⟨y1,y2⟩:=y;have:¬ (x1=y1/\x2=y2):=λz=>ne (by rw[z.1,z.2]);simp only at *;lia
def BF(K:Z1):List V->Hp->VK->Prop:=λxs H Q=>∃p vs ps,xs=[.ref p]/\dj K H p vs/\Paired ((ga a7 a7).rel H) vs ps/\ps.length<64/\ps.Nodup/\∀q (ix:ZT),H q=Wc->(∀i∈ix,i<vs.length)->ix.map (λi=>ps.getD i (0,0))=lY ps->Q (.ref q) (aB H q<|.lst (ix.map λi=>vs.getD i .non))
def aS.pairs{σ:St}(I:Inv X ZY σ H s):∀{vs:List V} {Wj:ZO} {ps:ZF},aS vs Wj->Paired ((ga a7 a7).rel H) vs ps->j0 s.heap Wj ps:=λ{vs Wj ps} p0 p1=>by
 induction p0 generalizing ps with
 |nil=>cases p1;exact .nil
 |cons r t ih =>
  cases p1 with
  |cons z q =>
   refine .cons ?_<|ih q;obtain⟨p,a,b,rfl,e2,e3,e4⟩:=z;cases r;cases e3;cases e4;obtain⟨_,its',rv,o,h1,h2,n,h3⟩:=(show bA X.prog X.w H s.heap p (.tup [.int _,.int _]) from I.hok p _ e2);cases rv with
   |cons r1 rv =>
    cases rv with
    |cons r2 rv =>cases rv;obtain⟨t1,rfl⟩:=r1;obtain⟨t2,rfl⟩:=r2;exact⟨p,o,_,n,t1,t2,rfl,h1,h2,h3,rfl⟩
def BG(hn:ps.Nodup)(a:Srt.Arr ps.length p)(u:Srt.Up (λi j=>dZ (ps.getD i (0,0))<|ps.getD j (0,0)) p ps.length):p.toList.map (λi=>ps.getD i (0,0))=lY ps:=by
 have e0:ps=(Z9 ps.length).map λi=>ps.getD i (0,0):=by
  apply List.ext_getElem
  ·simp
  ·intro i h1 h2;simp[h1]
 refine dD (le:=λa b=>nU a b=Wd) (λa b=>uN) ?_ ?_<|jw ps
 ·refine List.Perm.trans ?_ (jS ps).symm;have:=a.pm.map λi=>ps.getD i (0,0);rw[<- e0]at this;exact this
 ·rw[List.pairwise_iff_getElem];intro i j hi hj hij;have hsz:p.toList.length=ps.length:=by rw[V5];exact a.sz
  rw[Z5]at hi hj;have h:=u i j hij (by exact cW hj<|bK hsz);have g:∀k (hk:k<p.toList.length),Srt.at' p k=p.toList[k]:=λk hk=>by unfold Srt.at';simp at hk;simp[hk]
  rw[g i hi,g j hj]at h;rw[List.getElem_map,List.getElem_map];unfold dZ at h;unfold nU;rw[VS]at *;omega
end
section
variable {X:Cx}{K:Z1}
open PySem.W
def t9{α β:Type}{F:α->β->Prop}{l:List α}{m:List β}{x:α}{y:β}(p:Paired F l m)(hi:i<l.length):F (l.getD i x) (m.getD i y):=by
 obtain⟨b,e1,e2⟩:=cY p<|Z7 hi;have h1:l.getD i x=l[i]:=by simp[hi]
 have h2:m.getD i y=b:=by simp[e1]
 rw[h1,h2];exact e2
def gc{α β γ:Type}{F:β->γ->Prop}{f:α->β}{g:α->γ}:∀{l:List α},(∀a∈l,F (f a) (g a))->Paired F (l.map f) (l.map g)
 |[],_=>.nil
 |a ::l,h=>.cons (h a<|Y1.mpr<|.inl rfl) (gc λb hb=>h b<|Y1.mpr<|.inr hb)
def pF(h:X.K=K):eG X (.builtin "sorted") (BF K):=by
 subst h;intro ZY s σ H xs us Q I r hh;obtain⟨p,vs,ps,rfl,hS,hP,ZQ,hnd,q⟩:=hh;obtain⟨u,rfl,ru⟩:=vals1 r;cases ru;obtain⟨Wj,rv,ht,hz⟩:=I.list hS;have hl:=rv.length;have hl2:=hP.length;have pa:=aS.pairs I rv hP;have el:Wj.length=ps.length:=by exact T9 (aO (bK hl.symm)<|bK hl2)<|aO (bK hl2.symm)<|bK hl
 refine wV (κ:=tuples' Wd) (c:=λi j=>dZ (ps.getD i (0,0))<|ps.getD j (0,0)) ht.isList (by exact dM (bK el) ZQ) (by rw[el];exact rq hnd) (λh2 h' k Q' hq=>?_) (λh' k i j C hi hj hC=>rp (s:={s with heap:=h'}) (pa.kept k) hi hj hC) λp1 a1 u1=>?_
 ·obtain⟨fs,g1,g2,g3⟩:=(pa.kept k).tups;refine kat_kind (s:={s with heap:=h'}) (T:=.type "int") g1 (by lia) (λv hv=>?_) rfl hq;obtain⟨i,t,rfl⟩:=g3 v hv;exact .now
 ·rw[el]at a1 u1;have eu:=BG hnd a1 u1;obtain⟨ep,hat⟩:=sortedAll_at s.heap Wj<|gb Wj p1;have hlt:∀i∈p1.toList,i<ps.length:=λi hi=>by have:=a1.pm.subset hi;simpa using this
  refine⟨.ref _,_,I.laid (t':=s.toks) (o:=.lst (p1.toList.map λi=>vs.getD i .non)) (λb ob q=>sortedAll_old q) (R6 _) ⟨?_,p1.toList.map λi=>Wj.getD i J9,ep,?_,hat⟩,rfl,q _ _ (I.hok.fresh<|R6 _) (λi hi=>by have:=hlt i hi;exact cW this<|bK hl2.symm) eu⟩
  ·rw[Z5,V5,a1.sz,V0];exact cj<|fD ZQ (by decide)
  ·exact gc λi hi=>t9 rv (by have:=hlt i hi;exact cW this<|bK hl2.symm)
def BH:List V->Hp->VK->Prop:=λxs H Q=>∃p ws ks,xs=[.ref p]/\H p=Wb (.dK ws)/\ws.map (·.1)=ks.map J2/\ks.length<64/\∀q,H q=Wc->Q (.ref q) (aB H q<|.lst<|(lX ks).map V.int)
def wX(hc:X.calm=Wd):eG X (.builtin "sorted") BH:=by
 intro ZY s σ H xs us Q I r hh;obtain⟨p,ws,ks,rfl,hD,hK,ZQ,q⟩:=hh;obtain⟨u,rfl,ru⟩:=vals1 r;cases ru;obtain⟨hz,lo,kvs,hkv,hdo⟩:=y9 I.hok hD;obtain⟨ep,hat⟩:=hdo.dictAt;have hl:=hkv.length;have hl2:ws.length=ks.length:=by have:=congrArg F6 hK;simpa using this
 refine Calls.call_function_entry kind_sorted VN VO (args_sorted1 _) ?_;unfold Q7.«sorted»;refine Z0 (m:=checkCount "sorted" 1 1 _)<|Z8 ?_;refine Z0 (kdu_collect (A:=X.A.in1) (kdl_dict (knd:=bi X.prog X.w) (kvs:=kvs) (ep:=ep) lo) (I.ok.hd hc) hat (by exact aO (bK hl.symm) hz) λh' tk Wo hk hacc=>?_);have I1:=I.kept (t':=tk) hk;have hlen:Wo.toList.length=ks.length:=by rw[V5,hacc.1];exact T9 (aO (bK hl.symm)<|bK hl2)<|aO (bK hl2.symm)<|bK hl
 have hI:L4 Wo.toList ks:=by
  have key:∀(l:ZO) (m:ZW),l.length=m.length->(∀(i:Nat) v,l[i]?=Wb v->∃n t,m[i]?=Wb n/\v=P3 n t)->L4 l m:=by
   intro l;induction l with
   |nil=>intro m e _;cases m with
    |nil=>exact .nil
    |cons _ _=>simp at e
   |cons v l ih=>intro m e h;cases m with
    |nil=>simp at e
    |cons n m =>obtain⟨n',t,e1,rfl⟩:=h 0 v rfl;cases e1;exact .cons n t (ih m (by simpa using e) λi v hv=>h (i+1) v (by simpa using hv))
  refine key _ _ hlen λi v hv=>?_;obtain⟨k,x,h1,h2⟩:=hacc.2 i v (by rw[<- R5];exact hv);obtain⟨y,e1,e2,e3⟩:=bO hkv h1;have e4:(ws.map (·.1))[i]?=Wb y.1:=by rw[Y3,e1];rfl
  rw[hK,Y3]at e4;cases q:ks[i]? with
  |none=>rw[q]at e4;cases e4
  |some n =>rw[q]at e4;have e5:y.1=J2 n:=(Z4 e4).symm;have e6:k=J2 n:=e2.symm.trans e5;subst e6;obtain⟨t,e7⟩:=Value.isInt_shape (k:=n) (v:=v) h2;exact⟨n,t,rfl,e7⟩
 refine Z0<|E3 ?_ (by rw[hlen,V0];exact cj<|fD ZQ (by decide));have hoL:(h'.push<|VB "list" Wo.toList.toArray 0).get? h'.objs.size=Wb (VB "list" Wo.toList.toArray 0):=Y7 _ rfl;refine Z0 (T7 (O3 VH ⟨_,hoL,rfl⟩ VG
  (list_sort_tree (s:={s with heap:=h'.push<|VB "list" Wo.toList.toArray 0,toks:=tk}) hoL hI (by exact dM (bK hlen) ZQ) λout ns' a1 a2 a3=>(aD _ rfl ?_)) (args_list_sort _)))
 have e:ns'=lX ks:=PySem.W.ksm_same (a2.trans (cO ks).symm) a3<|eV ks;subst e;obtain⟨e1,hat1⟩:=sortedHeap_at (out:=out) hoL;refine Z8 ⟨_,rfl,.ref _,_,I1.laid (t':=tk) (o:=.lst<|(lX ks).map V.int) (λb ob q=>?_) (bW _) ⟨?_,out.toList,e1,iD a1,hat1⟩,rfl,q _<|I1.hok.fresh<|bW _⟩
 ·have hlt:b<h'.objs.size:=Y4 q;rw[sortedHeap_old (eP hlt) (by rw[VF];exact T6 hlt)];exact Z2 _ q
 ·rw[Z5,(cO ks).length_eq,V0];exact cj<|fD ZQ (by decide)
end
section
variable {Γ:List Slot}{ta:TE}{K:Z1}
set_option tactic.hygienic true in
def rA(h:EV Γ ta o (rL<|ga a7 a7)):iR Γ (qV (BF K)<|aK ta bL) (o.bind λps=>pC ps) (ga a7 a7):=by
 intro C F σ H Q xs S e k;obtain⟨ps,e1,e⟩:=a8 e;unfold pC at e;split at e
 ·rename_i ZQ;cases e;refine h C F σ H _ ps S e1 λv F' H' x1 ⟨p,vs,e2,h1,h2⟩=>?_;refine⟨p,vs,ps,by rw[e2],.inl<|x1.sub.rd h1,Paired.imp2 (λx x z=>Rp.mono _ x1.sub z) h2,ZQ.1,ZQ.2,λq ix hq hi hx=>?_⟩;refine k q _ F' H' x1 hq ?_;rw[<- hx];exact gc λi h=>t9 h2<|hi i h
 ·cases e
def dE:∀{vs:List V} {ns:ZW},Paired (a7.rel F) vs ns->vs=ns.map V.int:=λp=>by
 induction p with
 |nil=>rfl
 |cons h _ ih=>rw[V7,<- ih];cases h;rfl
set_option tactic.hygienic true in
def zI(h:EV Γ ta o (rL a7)):iR Γ (qV (BE K)<|aK ta bL) (o.bind λns=>sortI ns) a7:=by
 intro C F σ H Q xs S e k;obtain⟨ns,e1,e⟩:=a8 e;unfold sortI at e;split at e
 ·rename_i ZQ;cases e;refine h C F σ H _ ns S e1 λv F' H' x1 ⟨p,vs,e2,h1,h2⟩=>⟨p,ns,by rw[e2],?_,ZQ,λq hq=>k q _ F' H' x1 hq<|paired_ints _⟩;rw[<- dE h2];exact .inl<|x1.sub.rd h1
 ·cases e
end
end
end L2

namespace Pu
section
variable {α:Type}
def hJ(σ:ZW)(k:Int):List Int:=if σ.any (·==k) then σ else σ++[k]
def oA(ns:ZW):List Int:=ns.foldl hJ []
def pop0{α T:Type}(xs:List α)(f:α->List α->Option T):Option T:=match xs with
 |[]=>Wc
 |a ::ys=>f a ys
def uO(ns:ZW):Option (List Int):=if ns.length+1<4096 then Wb (oA ns) else Wc
end
end Pu

namespace L2
open Pu
section
open PySem PySem.Spec PyProof.Rows
variable [Kn:Kon]
section
variable {X:Cx}{K:Z1}
def BI(K:Z1):List V->Hp->VK->Prop:=λxs H Q=>∃p ns,xs=[.ref p]/\dj K H p (ns.map V.int)/\ns.length+1<4096/\∀q S,H q=Wc->(∀k,S k=(oA ns).any (·==k))->Q (.ref q) (aB H q<|.set S (oA ns).length)
def wY(h:X.K=K)(hc:X.calm=Wd):eG X (.type "set") (BI K):=by
 subst h;intro ZY s σ H xs us Q I r hh;obtain⟨p,ns,rfl,hS,hb,q⟩:=hh;obtain⟨u,rfl,ru⟩:=vals1 r;cases ru;obtain⟨Wj,rv,ht,hz⟩:=I.list hS;have hl:=rv.length;rw[Z5]at hl;have ed:VE (λi=>ns.getD i 0) Wj.toArray.size=oA ns:=by
  unfold VE;have:(Z9 Wj.toArray.size).map (λi=>ns.getD i 0)=ns:=by
   apply List.ext_getElem
   ·simp[hl]
   ·intro i h1 h2;simp[h2]
  rw[this];rfl
 refine call_set_list (I.ok.hd hc) ht.isList (by simpa using iZ rv) (by simp;have:WL=4096:=rfl;lia) λh' tk hset hk=>?_;rw[ed]at hset;exact⟨.ref _,_,I.laid (t':=tk) (o:=.set _ _) (λb ob q=>hk b ob (Y4 q) q) (bW _) hset,rfl,q _ _ (I.hok.fresh<|bW _) λx=>rfl⟩
def zJ:eG X (.builtin "len") (λxs H Q=>∃a S n,xs=[V.ref a]/\H a=Wb (.set S n)/\Q (.int (n:Nat)) H):=by intro ZY s σ H xs us Q I r hh;obtain⟨a,S,n,rfl,hH,q⟩:=hh;obtain⟨u,rfl,ru⟩:=vals1 r;cases ru;obtain⟨o,es,ep,t,h1,h2,h3,h4,h5,h6,h7,rfl⟩:=(show bA X.prog X.w H s.heap a (.set S n) from I.hok a _ hH);have:WL=4096:=rfl;exact call_len_set h1 h2 h3 h7 (by lia) ⟨.int _,H,I.tok _,⟨_,rfl⟩,q⟩
end
def rZ:Rp (List Int):=⟨λH v xs=>∃p S,v=.ref p/\H p=Wb (.set S xs.length)/\∀k,S k=xs.any (·==k),λe ⟨p,S,h1,h2,h3⟩=>(eB p S h1 (e _ _ h2) h3)⟩
section
variable {Γ:List Slot}{α S:Type}{r:Rp α}{ta tb:TE}{K:Z1}{o:Zi}
set_option tactic.hygienic true in
def ev_mset(h:EV Γ ta o (rL a7)):EV Γ (qV (BI K)<|aK ta bL) (o.bind λxs=>uO xs) rZ:=by
 intro C F σ H Q c S e k;obtain⟨xs,e1,e⟩:=a8 e;unfold uO at e;split at e
 ·rename_i hh;cases e;refine h C F σ H _ xs S e1 λv F' H' x1 ⟨p,vs,e3,h1,h2⟩=>⟨p,xs,by rw[e3],?_,hh,λq S hq hS=>k _ _ _ (x1.trans<|Ext.new x1.sub hq) ⟨q,S,rfl,ae,hS⟩⟩;rw[<- dE h2];exact .inl<|x1.sub.rd h1
 ·cases e
def ev_lenZ(h:EV Γ ta o rZ):EV Γ (qV (λxs H Q=>∃a S n,xs=[V.ref a]/\H a=Wb (.set S n)/\Q (.int (n:Nat)) H)<|aK ta bL) (o.bind λxs=>Wb<|ln xs) a7:=by intro C F σ H Q c S e k;obtain⟨xs,e1,e⟩:=a8 e;cases e;exact h C F σ H _ xs S e1 λv F' H' x1 ⟨p,S,e3,h1,h2⟩=>⟨p,S,_,by rw[e3],x1.sub _ _ h1,k _ F' H' x1 rfl⟩
def ev_ltT2{o o':Option (Int×Int)}(h:EV Γ ta o (ga a7 a7))(h':EV Γ tb o' (ga a7 a7)):EV Γ (iQ (rLtT K) ta tb) (o.bind λa=>o'.bind λb=>Wb<|dZ a b) aX :=
 lL (r:=ga a7 a7) (s:=ga a7 a7) (λF H x y a b c Q sb zq zp e k=>rX zq λp u v e1 h1 h2 h3=>rX zp λp' u' v' e2 h4 h5 h6=>by cases e;cases h2;cases h3;cases h5;cases h6;exact⟨p,p',[a.1,a.2],[b.1,b.2],e1,e2,l9.of<|sb _ _ h1,l9.of<|sb _ _ h4,by rw[pE];exact k _ rfl⟩) h h'
def keys_of:∀{ws:List (Key×V)} {d:List (Int×α)},Paired (cN r F) ws d->ws.map (·.1)=(d.map (·.1)).map J2:=λp=>by
 induction p with
 |nil=>rfl
 |cons h _ ih=>rw[V7,V7,V7,ih,h.1]
set_option tactic.hygienic true in
def zK{o:Option (List<|Int×α)}(h:EV Γ ta o (rD r)):iR Γ (qV BH<|aK ta bL) (o.bind λd=>sortI<|d.map (·.1)) a7:=by
 intro C F σ H Q xs S e k;obtain⟨d,e1,e⟩:=a8 e;unfold sortI at e;split at e
 ·rename_i ZQ;cases e;refine h C F σ H _ d S e1 λv F' H' x1 ⟨p,ws,e2,h1,h2⟩=>⟨p,ws,d.map (·.1),by rw[e2],x1.sub _ _ h1,?_,ZQ,λq hq=>k q _ F' H' x1 hq<|paired_ints _⟩;exact keys_of h2
 ·cases e
end
section
variable {Γ:List Slot}{α T S:Type}{r:Rp α}{K:Z1}{u:TS}{fin:Fc->T->Ends->Prop}{φ:ZJ}{xs:List α}
def nE{F:V->α->Prop}(p:Paired F vs xs)(h:xs.getLast?=Wb a):∃v,vs[vs.length-1]?=Wb v/\F v a/\Paired F vs.dropLast xs.dropLast:=by rw[List.getLast?_eq_getElem?]at h;obtain⟨v,h1,h2⟩:=bO p h;refine(eD v (by rw[p.length];exact h1) h2 ?_);rw[List.dropLast_eq_take,List.dropLast_eq_take,p.length];exact Paired.takeB _ p
def bv_popF{f:α->List α->Option T}(i j:Nat)(hi:Γ[i]?=Wb (.ol r φ xs))(hij:i≠j)(h:∀a ys,BV ((Γ.set i<|.ol r φ ys).set j (.fr r a)) u (f a ys) fin):BV Γ (bC (ie (tBM K "list" wy (bf i) (aK (tC<|.int 0) bL))<|du j) u) (pop0 xs f) fin:=bv_pop0 i j hi hij h
def bv_pop{f:α->List α->Option T}(i j:Nat)(hi:Γ[i]?=Wb (.ol r φ xs))(h:∀a ys,BV ((Γ.set i<|.ol r φ ys).set j (.fr r a)) u (f a ys) fin):BV Γ (bC (ie (zm K "list" rPop (bf i))<|du j) u) (xs.getLast?.bind λa=>f a xs.dropLast) fin:=by intro C F σ H D x S e k;obtain⟨a,e1,e⟩:=a8 e;refine cz (S.at_ i _ hi) λp vs h1 h2 h3 h4 h5 h6=>?_;obtain⟨v,g1,g2,g3⟩:=nE h6 e1;exact⟨.ref p,h1,.inl ⟨rfl,_,dj.of h5⟩,p,vs,v,rfl,rfl,h5,g1,h a _ C F _ _ D x ((S.chg (s':=.ol r φ xs.dropLast) hi rfl h1 h3 h4 rfl ⟨p,_,rfl,h2,h3,h4,ae,g3⟩).setF j g2) e k⟩
end
end
section
open PySem PySem.Spec PyProof.Rows
variable [Kn:Kon]
section
variable {prog:W7}{w:WB}{A:WE}{E:ZU}{s:Ww}{vs ks:ZO}{a kS:Wy}
open PySem.W
def jx(prog:W7)(w:WB)(A:WE)(f:Wx)(kS:Wy)(Fi:Zh):List Wx->List Wx->Ww->Prop
 |[],ks,s=>Fi ks s
 |x ::r,ks,s=>Wz (WA prog w) A (call f [x]) (λk s1=>(∃e,s1.heap.get? kS=Wb (VB "list" (U4 ks) e)) /\
   jx prog w A f kS Fi r (ks++[k]) {s1 with heap:=s1.heap.update kS (X0 (·.push k))}) (λa a=>False) s
def j1(prog:W7)(w:WB)(A:WE)(a:Wy)(e1:Nat)(kS:Wy)(vs:ZO)(P:PySem.Fin->Ww->Prop)(ks:ZO)(s:Ww):Prop :=
 s.heap.get? a=Wb (VB "list" #[] e1)/\∃(κ:SortKind) (c:Zw),Srt.Lin c vs.length/\(2<=vs.length->∀Q':SortKind->Ww->Prop,Q' κ s->Wz (WA prog w) A (keyKind'<|U4 ks) Q' (λx x=>False) s) /\
  (∀i j C,i<vs.length->j<vs.length->C (c i j) s->kas_ask prog w A κ ks i j C s) /\
  ∀p,Srt.Arr vs.length p->Srt.Up c p vs.length->P (.done<|.ret .none) {s with heap:=(s.heap.update kS (X0 λx=>#[])).update a (X0 λx=>gb vs p)}
def rB{st:SortSt}{P:PySem.Fin->Ww->Prop}(hka:kS≠a)(hk:s.heap.get? kS=Wb (VB "list" (U4 ks) e))(ha:s.heap.get? a=Wb (VB "list" #[] e1))(hz:ks.length<64)(ho:(arrOf st).map (·.2)=gb vs p)(hf:failedOf st=Wc)(hp:p.size<64)(h:P (.done<|.ret .none) {s with heap:=(s.heap.update kS (X0 λx=>#[])).update a (X0 λx=>gb vs p)}):
  Wz (WA prog w) A (ksk_tail a We e1 (.ref kS) st) P E s:=by
 have ha':(s.heap.update kS (X0 λx=>(#[]:Array Wx))).get? a=Wb (VB "list" #[] e1):=by rw[W9 _ _ _ _ (V8 hka)];exact ha
 unfold ksk_tail;rw[ho];simp only[Q9,if_false];refine Z0<|VC hk rfl ?_ (by rw[Y6,V0];exact cj<|fD hz (by decide))<|U2 _;refine Z0<|D3 ?_;refine Z0<|VL ha' rfl ?_;refine Z0<|VC ha' rfl ?_ (U2 _) (by rw[pD,V0];exact K3<|cj<|fD hp (by decide));rw[hf];simp only[bne_self_eq_false,Q9,if_false];exact Z8 h
def BJ{P:PySem.Fin->Ww->Prop}(hka:kS≠a)(hk:s.heap.get? kS=Wb (VB "list" (U4 ks) e))(hl:ks.length=vs.length)(ZQ:vs.length<64)(h:j1 prog w A a e1 kS vs P ks s):
  Wz (WA prog w) A (ksk_end a We vs.toArray e1 (.ref kS)<|U4 ks) P E s:=by
 obtain⟨ha,κ,c,L,hkd,hc,fin⟩:=h;unfold ksk_end;simp only[Q9,if_false];by_cases h2:vs.toArray.size<2
 ·rw[VP h2,VP h2];refine Z0<|Z8 ?_;rw[StateT.run_pure];refine Z0<|Z8 ?_;have sz:vs.length<2:=by simpa using h2
  refine rB (p:=U4<|Z9 vs.length) hka hk ha (by exact dM (bK hl) ZQ) ?_ rfl (by simp;exact ZQ) (fin _ ⟨by simp,by simp⟩ λi j hij hj=>by lia);have e2:=kas_range<|ks.toArray.zip vs.toArray;rw[show (ks.toArray.zip vs.toArray).size=vs.length by simp[hl]]at e2;exact kat_snds (st:=SortSt.mk' general' (ks.toArray.zip vs.toArray) #[] 7 Wc) hl e2.symm
 ·rw[VQ h2,VQ h2];have h2':2<=vs.length:=by simpa using W5.mp h2
  refine Z0 (T8 (hkd h2' (λκ' s'=>κ'=κ/\s'=s) ⟨rfl,rfl⟩) ?_ λx x z=>z.elim);rintro κ' s' ⟨rfl,rfl⟩;have ok:=Srt.yc (c:=c) (n:=vs.length) L (by lia);refine Z0 (T8 (kat_run (κ:=κ') (Q:=λst' s2=>s2=s'/\∃p:Array Nat,Srt.Arr vs.length p/\Srt.Up c p vs.length/\arrOf st'=p.map (kas_item<|ks.toArray.zip vs.toArray)/\failedOf st'=Wc)
   (G:=λp s2=>s2=s'/\Srt.Arr vs.length p/\Srt.Up c p vs.length) hl h2' ZQ (λp st' s2 x b2 b3 b4=>⟨b4.1,p,b4.2.1,b4.2.2,b2,b3⟩) (Srt.Ok.wp hc (λp hp=>⟨rfl,hp⟩) ok)) ?_ λx x z=>z)
  rintro⟨⟨⟩,st'⟩ s2 ⟨rfl,p,b1,b2,b3,b4⟩;exact rB hka hk ha (by exact dM (bK hl) ZQ) (kat_snds hl b3) b4 (by rw[b1.sz];exact ZQ)<|fin p b1 b2
def zL{Fi:Zh}{body:Wx->PUnit->Sem (ForInStep PUnit)}(hn:n<64)(hb:∀x l (s1:Ww) (C:ZU),F6 l<64->Wz (WA prog w) A (call f [x]) (λk s2=>(∃e,s2.heap.get? kS=Wb (VB "list" (U4 l) e))/\C k {s2 with heap:=s2.heap.update kS (X0 (·.push k))}) (λa a=>False) s1 ->
   Wz (WA prog w) A (body x ⟨⟩) (λr s2=>r=.yield ⟨⟩/\∃k,(∃e,s2.heap.get? kS=Wb (VB "list" (U4<|l++[k]) e))/\C k s2) E s1):∀(r l:ZO) (s1:Ww),l.length+r.length=n ->
   (∃e,s1.heap.get? kS=Wb (VB "list" (U4 l) e))->jx prog w A f kS Fi r l s1 ->
   Wz (WA prog w) A (forIn r PUnit.unit body) (λa s2=>∃l,(∃e,s2.heap.get? kS=Wb (VB "list" (U4 l) e))/\l.length=n/\Fi l s2) E s1:=by
 intro r;induction r with
 |nil =>intro l s1 hl hk h;rw[List.forIn_nil];exact Z8<|eD l hk hl h
 |cons x r ih =>intro l s1 hl hk h;rw[X2]at hl;rw[List.forIn_cons];refine Z0 (T8 (hb x l s1 _ (by lia) h) ?_ λa a z=>z);rintro q s2 ⟨rfl,k,hk',h2⟩;exact ih (l++[k]) s2 (by rw[X4,P6];lia) hk' h2
def zM{P:PySem.Fin->Ww->Prop}(hka:kS≠a)(hk:s.heap.get? kS=Wb (VB "list" #[] 0))(ZQ:vs.length<64)(h:jx prog w A f kS (j1 prog w A a e1 kS vs P) vs [] s):
  Wz (WA prog w) A (ksk_rest a f We vs.toArray e1<|.ref kS) P E s:=by
 unfold ksk_rest;refine Z0 (Vl ?_)
 first
  |rw[List.forIn_toArray]
  |rw[<- Array.forIn_toList]
 refine Z0 (T8 (zL (kS:=kS) ZQ (λx l s1 C hz hx=>?_) vs [] s (by simp) ⟨0,hk⟩ h) ?_ λx x z=>z)
 ·refine Z0<|Vg (T8 hx ?_ λx x z=>z.elim);rintro k s2 ⟨⟨e,he⟩,hC⟩;have ea:(U4 l).push k=U4 (l++[k]):=by simp
  have hn:∃e2,(s2.heap.update kS<|X0 (·.push k)).get? kS=Wb (VB "list" (U4<|l++[k]) e2):=⟨_,by rw[<- ea];exact M7 he (·.push k)⟩;refine Z0<|VC he rfl ?_ (by rw[Y6,V0];exact cj<|fD hz (by decide)) (by rw[Array.size_push,Y6,V0];lia);exact Z8 ⟨rfl,k,hn,hC⟩
 ·rintro _ s2 ⟨l,⟨e,he⟩,hl,fin⟩;refine Z0<|listItems_at he rfl ?_;exact BJ hka he hl ZQ fin
def qD{P:PySem.Fin->Ww->Prop}(ho:s.heap.get? a=Wb (VB "list" vs.toArray n))(ZQ:vs.length<64)(h:∀(e1:Nat) (kS:Wy) (h':WD),(∀b o,b≠a->s.heap.get? b=Wb o->h'.get? b=Wb o)->h'.get? a=Wb (VB "list" #[] e1)->h'.get? kS=Wb (VB "list" #[] 0)->s.heap.objs.size<=kS->kS<h'.objs.size ->
   jx prog w A f kS (j1 prog w A a e1 kS vs P) vs [] {s with heap:=h'}):Wz (WA prog w) A (ksk_tree a f We) P E s:=by
 have ha:a<s.heap.objs.size:=Y4 ho;obtain⟨e1,ho1⟩:∃e1,(s.heap.update a (X0 λx=>(#[]:Array Wx))).get? a=Wb (VB "list" #[] e1):=⟨_,M7 ho λx=>#[]⟩;have hz:((s.heap.update a (X0 λx=>(#[]:Array Wx))).push (VB "tuple" vs.toArray 0)).objs.size=s.heap.objs.size+1:=by rw[VF,Heap.size_update]
 unfold ksk_tree;refine Z0<|listItems_at ho rfl ?_;refine Z0<|VC ho rfl ?_ (by rw[Y6,V0];exact cj<|fD ZQ (by decide))<|U2 _;refine Z0<|VL ho1 rfl ?_;refine Z0<|wpAny_newTuple ?_ (by show vs.length<=_;rw[V0];exact cj<|fD ZQ (by decide));refine Z0<|E3 ?_<|U2 _;refine T7 ?_;have hkS:(((s.heap.update a (X0 λx=>(#[]:Array Wx))).push (VB "tuple" vs.toArray 0)).push (VB "list" #[] 0)).get? ((s.heap.update a (X0 λx=>(#[]:Array Wx))).push (VB "tuple" vs.toArray 0)).objs.size=Wb (VB "list" #[] 0):=Y7 _ rfl;refine zM (s:={s with heap:=((s.heap.update a (X0 λx=>(#[]:Array Wx))).push (VB "tuple" vs.toArray 0)).push (VB "list" #[] 0)}) (by rw[hz];exact O2<|T6 ha) hkS ZQ<|h e1 _ _ (λb o nb q=>?_) ?_ hkS (by rw[hz];exact R6 _)<|Y4 hkS
 ·refine Z2 _<|Z2 _ ?_;rw[W9 _ _ _ _ nb];exact q
 ·exact Z2 _<|Z2 _ ho1
def wZ{Q:ZU}(hl:s.heap.IsList l vs.toArray)(ZQ:vs.length<64)(h:∀(D:Wy) (e1:Nat) (kS:Wy) (h':WD),(∀b o,s.heap.get? b=Wb o->h'.get? b=Wb o)->h'.get? D=Wb (VB "list" #[] e1)->h'.get? kS=Wb (VB "list" #[] 0)->s.heap.objs.size<=D->D<kS->kS<h'.objs.size ->
   jx prog w A.in1.in1 (.ref q) kS (j1 prog w A.in1.in1 D e1 kS vs λf s'=>Q (.ref D) s') vs [] {s with heap:=h'}):
  Wz (WA prog w) A (call (.builtin "sorted") [.ref l] [(F7 "key",.ref q)]) Q E s:=by
 refine call_function_entry_kw kind_sorted VN VO (ksk_s1 _ _) ?_;unfold Q7.«sorted»;refine Z0 (m:=checkCount "sorted" 1 1 _)<|Z8 ?_;refine Z0<|collect_list hl ?_ (by rw[V0];exact cj<|fD ZQ (by decide));refine Z0<|E3 ?_ (by rw[V0];exact cj<|fD ZQ (by decide));have hsz:((s.heap.push<|VB "list" #[] 0).update s.heap.objs.size (X0 (·++vs.toArray))).objs.size=s.heap.objs.size+1:=by rw[Heap.size_update,VF]
 have hoL:(((s.heap.push<|VB "list" #[] 0).update s.heap.objs.size (X0 (·++vs.toArray))).push (VB "list" vs.toArray 0)).get? (s.heap.objs.size+1)=Wb (VB "list" vs.toArray 0):=by rw[<- hsz];exact Y7 _ rfl
 have keep:∀b o,s.heap.get? b=Wb o->b≠s.heap.objs.size+1/\(((s.heap.push<|VB "list" #[] 0).update s.heap.objs.size (X0 (·++vs.toArray))).push (VB "list" vs.toArray 0)).get? b=Wb o:=λb o q=>by have hlt:b<s.heap.objs.size:=Y4 q;refine⟨eP<|T6 hlt,Z2 _ ?_⟩;rw[W9 _ _ _ _ (eP hlt)];exact Z2 _ q
 show Wz _ _ _ _ _ {s with heap:=((s.heap.push<|VB "list" #[] 0).update s.heap.objs.size (X0 (·++vs.toArray))).push (VB "list" vs.toArray 0)};rw[hsz];refine Z0<|T7<|wpAny_call_entry_kw VH ⟨_,hoL,rfl⟩ VG ?_<|ksk_l1 _ _;rw[ksk_t1];refine qD (s:={s with heap:=((s.heap.push<|VB "list" #[] 0).update s.heap.objs.size (X0 (·++vs.toArray))).push (VB "list" vs.toArray 0)}) hoL ZQ λe1 kS h' k1 k2 k3 k4 k5=>?_;have hDk:s.heap.objs.size+1<kS:=by
  have:(((s.heap.push<|VB "list" #[] 0).update s.heap.objs.size (X0 (·++vs.toArray))).push (VB "list" vs.toArray 0)).objs.size=s.heap.objs.size+2:=by rw[VF,hsz]
  have k4':s.heap.objs.size+2<=kS:=by rw[<- this];exact k4
  (clear k5 k4 k3 k2 k1 keep hoL hsz h ZQ hl;lia)
 have hh:=h (s.heap.objs.size+1) e1 kS h' (λb o q=>k1 b o (keep b o q).1 (keep b o q).2) k2 k3 (R6 _) hDk k5;have mono:∀(r l:ZO) (s1:Ww),jx prog w A.in1.in1 (.ref q) kS (j1 prog w A.in1.in1 (s.heap.objs.size+1) e1 kS vs λf s'=>Q (.ref<|s.heap.objs.size+1) s') r l s1 ->
   jx prog w A.in1.in1 (.ref q) kS (j1 prog w A.in1.in1 (s.heap.objs.size+1) e1 kS vs λfin s'=>∃v,fin=.done (.ret v)/\Wz (WA prog w) A.in1 (ret<|.ref<|s.heap.objs.size+1) (λfin s'=>∃v,fin=.done (.ret v)/\Q v s') E s') r l s1:=by
  intro r;induction r with
  |nil=>exact λl s1 ⟨z0,κ,c,z1,z2,z3,z4⟩=>⟨z0,κ,c,z1,z2,z3,λp a1 a2=>(aD _ rfl<|Z8<|aD _ rfl<|z4 p a1 a2)⟩
  |cons x r ih=>exact λl s1 z=>T8 z (λk s2 z2=>⟨z2.1,ih _ _ z2.2⟩) λa a z=>z
 exact mono _ _ _ hh
end
end
section
open PySem PySem.Spec PyProof.Rows
variable [Kn:Kon]
def lZ(X:Cx)(A:WE)(N':ZL)(qual:Str)(scope:WY)(f:Wy)(cd:Wx)(cl:Zt)(s:Ww)(H:Hp):Cx where
 prog:=X.prog
 w:=X.w
 K:=X.K
 mg:=X.mg
 base:=X.base
 A:=A.deeper (PySem.W.envX qual scope s.heap.objs.size f cd cl)
 N:=N'
 s₀:=s
 H₀:=H
 env:=PySem.W.envX qual scope s.heap.objs.size f cd cl
 outer:=X.stack
 stack:=PySem.W.envX qual scope s.heap.objs.size f cd cl ::X.stack
 ex:=[]
 fn:=λx=>We
 calm:=Wd
 pn:=[]
 xe:=λx x=>False
structure LamScope(X:Cx)(x:Str)(cap:ZI)(scope:WY):Prop where
 kind:scope.kind=.function
 co:scope.isCoroutine=We
 gen:scope.isGenerator=We
 nocell:∀y∈scope.names,y.2≠.cell
 par:scope.names.lookup x=Wb .local
 free0:freeOk scope.names X.env.scope.names=Wd
 cap:uy X scope cap
def hU(v:V)(cap:ZI)(σ:St):St:=Wb v ::cap.map λp=>(σ[p.2]?).join
structure LamCl(X:Cx)(scope:WY)(cl:Zt):Prop where
 of:∀x c,cl.lookup x=Wb c->X.env.cells.lookup x=Wb c
 has:∀y∈scope.names,y.2=.free->∃c,cl.lookup y.1=Wb c
section
variable {X:Cx}{A:WE}{ZY:ZN}{σ:St}{H:Hp}{s:Ww}{x:Str}{cap:ZI}{scope:WY}{cl:Zt}{qual:Str}{f:Wy}{cd:Wx}
def inv_lam(S:LamScope X x cap scope)(C:LamCl X scope cl)(I:Inv X ZY σ H s)(hA:A.frames=Wb X.stack)(hh:A.handled=Wc)(r:RelV v u)(hns:h1.Ns s.heap.objs.size λy=>[(x,u)].reverse.lookup y)(hk:∀b o,s.heap.get? b=Wb o->h1.get? b=Wb o):
  Inv (lZ X A (x ::cap.map (·.1)) qual scope f cd cl s H) [] (hU v cap σ) H {s with heap:=h1,toks:=t'}:=by
 have noA:∀b:Wy,b∉(lZ X A (x ::cap.map (·.1)) qual scope f cd cl s H).ex:=λb z=>VR (show b∈([]:List Wy) from z) (by simp);refine⟨⟨I.ok.mod,S.kind,rfl,rfl,bW _,λy z c h1 h2=>I.ok.inj y z c (C.of y c h1)<|C.of z c h2,λy hy=>?_,λy c h a=>VR (show (We=Wd) from h) (by decide),λa=>hh,Around.frames_deeper hA,.inr ⟨rfl,rfl⟩,λb z=>VR z<|noA b,I.bs,
   aO I.ok.bsz I.sz,λb a a=>noA b,λb z=>VR z<|noA b,I.stack,I.stkFree⟩,
  rfl,I.bare,Un.kept hk,(aD _ hns λi y z e1 e2 e3=>?_),λy c e=>?_,I.hok.fresh<|bW _,λy c e=>I.freeC y c<|C.of y c e,λp hp=>VR (show p∈([]:List (Wy×Obj)) from hp) (by simp),I.hok.kept hk,by simp[lZ,hU]⟩
 ·have hy:scope.names.lookup y=Wb .cell\/scope.names.lookup y=Wb .free:=hy;rcases hy with hy|hy
  ·exact VR rfl<|S.nocell _<|R7 hy
  ·exact C.has _ (R7 hy) rfl
 ·cases i with
  |zero =>have e1:Wb x=Wb y:=e1;have e2:Wb (Wb v)=Wb (Wb z):=e2;cases e1;cases e2;exact(aD u r<|.inl ⟨S.par,by simp⟩)
  |succ i =>
   have e1:(cap.map (·.1))[i]?=Wb y:=e1;have e2:(cap.map λp=>(σ[p.2]?).join)[i]?=Wb (Wb z):=e2;rw[Y3]at e1 e2;cases q:cap[i]? with
   |none=>rw[q]at e1;cases e1
   |some p =>
    rw[q]at e1 e2;have e1:p.1=y:=Z4 e1;have e2:(σ[p.2]?).join=Wb z:=Z4 e2;subst e1;have e4:σ[p.2]?=Wb (Wb z):=by
     cases q2:σ[p.2]? with
     |none=>rw[q2]at e2;cases e2
     |some o=>rw[q2]at e2;exact congrArg Wb e2
    obtain⟨c1,c2,c3⟩:=S.cap.get p<|X6 q;obtain⟨m,_,hl⟩:=I.loc;have vis:Vis X.env.scope p.1:=by
     rcases c3 with k|k
     ·exact .inr<|.inl k
     ·exact .inr<|.inr k
    obtain⟨u',r',l⟩:=hl p.2 p.1 z c1 e4 vis;refine(aD u' r'<|.inr ⟨.inr c2,?_⟩);rcases l with zr2_|zr1_
    ·obtain⟨k,_⟩:=zr2_;rcases c3 with z|z
     ·rw[k]at z;cases z
     ·rw[k]at z;cases z
    ·obtain⟨_,c,e,hc⟩:=zr1_;obtain⟨c',hc'⟩:=C.has (p.1,.free) (R7 c2) rfl;have:c'=c:=Z4<|(C.of _ _ hc').symm.trans e;subst this;obtain⟨o,ho,hd⟩:=hc;exact⟨c',hc',o,hk _ o ho,hd⟩
 ·obtain⟨v,o,ho,hd⟩:=I.cell y c<|C.of y c e;exact⟨v,o,hk _ o ho,hd⟩
open PySem.W in
def tj(S:LamScope X x cap scope)(C:LamCl X scope cl)(I:Inv X ZY σ H s)(ho:s.heap.get? f=Wb (kla_obj "<lambda>" qual params body scope cl pm c' ctv))(hA:A.frames=Wb X.stack)(hh:A.handled=Wc)(hd:A.depth<E7)(hc:H c'=Wb (.ext<|bh c' qual))(hb:∀cl pm cd ct u,E8 (kla_fn "<lambda>" qual params body scope cl pm cd ct) ⟨[u],[]⟩=pure [(x,u)])(hp:PE (lZ X A (x ::cap.map (·.1)) qual scope f (.ref c') cl s H) body tb)(r:RelV v u)(h:tb (hU v cap σ) H Q):Wz (WA X.prog X.w) A (call (.ref f) [u]) (EP X ZY σ Q) (λa a=>False) s:=by
 have hcd:s.heap.CodeRec (.ref c') qual:=(show bA X.prog X.w H s.heap c' (.ext<|bh c' qual) from I.hok c' _ hc).1;refine wpAny_call (D5 (R:=λr s'=>match r with|.ok (.ret u')=>EP X ZY σ Q u' s'|_=>False) (kla_callFunE hd ho rfl S.co S.gen rfl hcd ?_) λr s' hr=>?_)
 ·rw[hb];refine Z8<|wpAny_newFunctionEnv S.nocell (λy hy=>?_) (λh₁ hns hsb=>⟨I.nolimit.fresh _ hsb,?_⟩) S.kind
  ·rw[Y0.mp hy];exact S.par
  have hk₁:∀b o,s.heap.get? b=Wb o->h₁.get? b=Wb o:=λb o e=>hsb.extBut b o (eP<|Y4 e)<|Z2 _ e;refine kla_codeExpr (T8 (hp [] _ _ H Q (inv_lam (qual:=qual) (f:=f) (cd:=.ref c') S C I hA hh r hns hk₁) h) (λu' s' he=>?_) λa a z=>z.elim);obtain⟨v',H',J,rv,q⟩:=he;exact I.after ⟨v',H',J.os,J.bare,J.base,J.hok,rv,q⟩
 ·cases r with
  |error e=>exact hr.elim
  |ok fl =>
   cases fl with
   |ret u=>exact hr
   |next=>exact hr.elim
   |brk=>exact hr.elim
   |cont=>exact hr.elim
end
def BM(mg:ZM)(base:WD):Prop:=∃bm ob,mg "__builtins__"=Wb (.ref bm)/\bm≠Vx/\base.get? bm=Wb ob/\ob.cls=.type "module"/\ob.dict=Wb Vx/\ob.data=.plain
def tm(P:Wy)(H H':Hp):Prop:=H'=H\/∃(ps:Zq) (c:Wy) (pos:Pos),H P=Wb (.tbl ps)/\Ve pos ps.toList=Wc/\H c=Wc/\c≠P /\
 H'=aB (aB H P<|.tbl<|ps++#[WG pos.line,WG pos.col,.ref c]) c (.ext<|bh c<|Kon.Q P)
set_option tactic.hygienic true in
def qE{pos Ws:Pos}(l:ZO)(h:TriplesOk l)(hc:Ve Ws (l++[WG pos.line,WG pos.col,c])=Wb cv):Ve Ws l=Wb cv\/cv=c:=by
 fun_induction TriplesOk l with
 |case1 =>
  simp only[List.nil_append,WG,Ve]at hc;split at hc
  ·cases hc;exact .inr rfl
  ·cases hc
 |case2 a t b u x rest ih =>
  simp only[List.cons_append,Ve]at hc ⊢;split at hc
  ·rename_i z;rw[VP z];exact .inl hc
  ·rename_i z;rw[VQ z];exact ih h hc
 |case3 l h1 h2=>exact h.elim
def yx{H:Hp}(hP:H P=Wb (.tbl ps))(q:H b=Wb (.tbl qs))(z:b=P):ps=qs:=by subst z;have y:=hP.symm.trans q;cases y;rfl
def tm.sm(t:tm P H H'):Sm H H':=by
 rcases t with rfl|⟨ps,c,pos,hP,hnf,hc,hcP,rfl⟩
 ·exact Sm.refl _
 have old:∀b o,b≠P->H b=Wb o->aB (aB H P<|.tbl<|ps++#[WG pos.line,WG pos.col,.ref c]) c (.ext<|bh c<|Kon.Q P) b=Wb o:=λb o nb q=>by rw[ah (ag q hc),ah nb];exact q
 have atP:aB (aB H P<|.tbl<|ps++#[WG pos.line,WG pos.col,.ref c]) c (.ext<|bh c<|Kon.Q P) P=Wb (.tbl<|ps++#[WG pos.line,WG pos.col,.ref c]):=by rw[ah (V8 hcP),ae]
 refine⟨λb o n q=>old b o (λe=>?_) q,λb qs q=>?_,λg=>⟨λP' hP'=>?_,λP' qs q=>?_⟩⟩
 ·subst e;rw[hP]at q;cases q;exact n
 ·by_cases e:b=P
  ·exact⟨_,by rw[e,<- yx hP q e];exact atP⟩
  ·exact⟨#[],by rw[old b _ e q];simp⟩
 ·obtain⟨qs,e⟩:=g.there P' hP';by_cases e':P'=P
  ·exact⟨_,(congrArg _ e').trans atP⟩
  ·exact⟨qs,old _ _ e' e⟩
 ·by_cases e':P'=P
  ·subst e';rw[atP]at q;cases q;obtain⟨g1,g2⟩:=g.good P' ps hP;have el:(ps++#[WG pos.line,WG pos.col,U6 c]).toList=ps.toList++[WG pos.line,WG pos.col,U6 c]:=by simp
   rw[el];refine⟨TriplesOk_snoc _ _ _ _ g1,λWs cv hcv=>?_⟩;rcases qE _ g1 hcv with z|z
   ·obtain⟨c2,e1,e2⟩:=g2 Ws cv z;exact(aD c2 e1<|old _ _ (λe=>by rw[e,hP]at e2;cases e2) e2)
   ·exact(aD c z ae)
  ·have nc:P'≠c:=by rintro rfl;rw[ae]at q;cases q
   rw[ah nc,ah e']at q;obtain⟨g1,g2⟩:=g.good P' qs q;exact⟨g1,λWs cv hcv=>by obtain⟨c2,e1,e2⟩:=g2 Ws cv hcv;exact(aD c2 e1<|old _ _ (λe=>by rw[e,hP]at e2;cases e2) e2)⟩
section
variable {X:Cx}{ZY:ZN}{σ:St}{H:Hp}{s:Ww}{x:Str}{cap:ZI}{scope:WY}{c P:Wy}{params:Arguments}{body:WC}{pos:Pos}
open PySem.W in
def tab_no{h:WD}{g P:Wy}{ps:Zq}{o:Obj}{es:Array O1}{ep:Nat}(hP:h.get? P=Wb (tabObj ps))(e:h.get? g=Wb o)(hd:o.data=.dict es ep)(q:g=P):False:=by subst q;have z:=(congrArg Obj.data<|Z4<|hP.symm.trans e).trans hd;cases z
open PySem.W in
def tab_nc{h:WD}{g P:Wy}{ps:Zq}{o:Obj}(hP:h.get? P=Wb (tabObj ps))(e:h.get? g=Wb o)(hd:o.cls=.type "module")(q:g=P):False:=by subst q;have z:=(congrArg Obj.cls<|Z4<|hP.symm.trans e).trans hd;cases z
def dat_no{h:WD}(e:h.get? g=Wb o)(e':h.get? b=Wb ob)(hd:o.data=.dict es ep)(hb:ob.data=.plain)(q:b=g):False:=by subst q;have z:=(hb.symm.trans<|congrArg Obj.data<|Z4<|e'.symm.trans e).trans hd;cases z
def Inv.addPin(I:Inv X ZY σ H s)(h1:s.heap.get? f=Wb o)(h2:H f=Wc)(h3:f≠X.env.locals)(h4:f∉X.fs)(h5:∀v,o.data≠.cell v):Inv X ((f,o) ::ZY) σ H s :=
 I.pins_of λp hp=>by
  rcases Y1.mp hp with rfl|hp
  ·exact⟨h1,h2,h3,h4,h5⟩
  ·exact I.pin p (Y2 _ hp)
open PySem.W in
def BK{Q:ZU}(I:Inv X ZY σ H s)(S:LamScope X x cap scope)(tg:TbG H)(hT:P∈Kon.T)(hq:Kon.Q P=X.env.qual++"<lambda>")(hcode:X.env.code=.ref c)(hC:codeHdIn X.K c P=Wd)(bm:BM X.mg X.base)(hdef:defaultsOf params X.env=([],[]))(h:∀f cl pm c' ctv H' s',Inv X ((f,kla_obj "<lambda>" (Kon.Q P) params body scope cl pm c' ctv) ::ZY) σ H' s'->tm P H H'->H' c'=Wb (.ext<|bh c'<|Kon.Q P)->LamCl X scope cl->Q (.ref f) s'):
  Wz (WA X.prog X.w) X.A (WF (.Lambda params body scope pos) X.env) Q X.xe s:=by
 obtain⟨ps,hP⟩:=tg.there P hT;obtain⟨t1,t2⟩:=tg.good P ps hP;have hPo:s.heap.get? P=Wb (tabObj ps):=(show bA X.prog X.w H s.heap P (.tbl ps) from I.hok P _ hP);obtain⟨cl,hcl,hcl1,hcl2⟩:=kG (scope:=scope) (env:=X.env) λy hy hf=>I.ok.has y.1<|oZ S.free0 y hy hf;have CL:LamCl X scope cl:=⟨hcl1,hcl2⟩;have hgs:=I.mod.glob.keeps I.bk;obtain⟨b,ob,b1,b2,b3,b4,b5,b6⟩:=bm;have b3':=I.bk _ _ b3;have hgP:S6≠P:=λq=>oq33 hgs λo es ep e hd i=>tab_no hPo e hd q;have hbP:b≠P:=λq=>tab_nc hPo b3' b4 q;have hbG:b≠S6:=λq=>oq33 hgs λo es ep e hd i=>dat_no e b3' hd b6 q;have bat:s.heap.BuiltinsAt X.mg P:=⟨b,ob,b1,b2,hbG,hbP,b3',b4,b5,b6⟩;have CD:=codeHd_of_K I.kIn hC;refine kla_eval hdef ?_;rw[<- hq];cases hf:Ve pos ps.toList with
 |some cv =>obtain⟨c',rfl,e2⟩:=t2 pos cv hf;refine kla_makeFunctionHit (mg:=X.mg) hcl I.ok.glob hgs hcode CD hPo t1 hf bat λctv h' tk hk hsz=>?_;have I1:Inv X ZY σ H {s with heap:=h'.push<|kla_obj "<lambda>" (Kon.Q P) params body scope cl ((X.mg "__name__").getD .none) c' ctv,toks:=tk}:=I.kept λb u e=>Z2 _<|hk b u e;exact h h'.objs.size cl ((X.mg "__name__").getD .none) c' ctv H _ (I1.addPin (Y7 _ rfl) (I.hok.fresh hsz) (O2<|cW I.lt hsz) (I.nofs hsz) λv z=>nomatch z) (.inl rfl) e2 CL
 |none =>
  refine kla_makeFunction (mg:=X.mg) hcl I.ok.glob hgs hcode CD hPo t1 hf hgP bat λc' ctv h' tk hx hge hlt hrec htb=>?_;have hcn:H c'=Wc:=I.hok.fresh hge;have hcP:c'≠P:=(ag hP hcn).symm;have hPL:P≠X.env.locals:=ag hP I.free;have hsz:s.heap.objs.size<=h'.objs.size:=cj<|dM hge hlt;have unt:∀b,H b=Wc->b≠P:=λb n=>(ag hP n).symm;have kp:∀b o,b≠P->s.heap.get? b=Wb o->(h'.push<|kla_obj "<lambda>" (Kon.Q P) params body scope cl ((X.mg "__name__").getD .none) c' ctv).get? b=Wb o:=λb o nb e=>Z2 _<|hx b o nb e;have hP2:(h'.push<|kla_obj "<lambda>" (Kon.Q P) params body scope cl ((X.mg "__name__").getD .none) c' ctv).get? P=Wb (tabObj<|ps++#[WG pos.line,WG pos.col,.ref c']):=Z2 _ htb;have lkO:∀b o,b≠P->H b=Wb o->aB (aB H P<|.tbl<|ps++#[WG pos.line,WG pos.col,.ref c']) c' (.ext<|bh c'<|Kon.Q P) b=Wb o:=λb o nb q=>by rw[ah (ag q hcn),ah nb];exact q
  have lkP:aB (aB H P<|.tbl<|ps++#[WG pos.line,WG pos.col,.ref c']) c' (.ext<|bh c'<|Kon.Q P) P=Wb (.tbl<|ps++#[WG pos.line,WG pos.col,.ref c']):=by rw[ah (V8 hcP),ae]
  have I1:Inv X ZY σ (aB (aB H P<|.tbl<|ps++#[WG pos.line,WG pos.col,.ref c']) c'<|.ext<|bh c'<|Kon.Q P) {s with heap:=h'.push<|kla_obj "<lambda>" (Kon.Q P) params body scope cl ((X.mg "__name__").getD .none) c' ctv,toks:=tk}:=by
   refine I.step (g':=s.gens) (d':=s.drawn) (ch:=[]) (λi z=>nomatch z) (λb o i i i e n=>kp b o (unt b n) e) (λb o i i i e n=>⟨o.slots,kp b o (unt b n) e⟩) (λb o i e n=>?_) (λb o i e=>?_) (λb xs q=>?_) (λb o u q=>?_) (λb qs q=>?_) (λm hm=>?_) (λa o q=>?_) I.bare
   ·rw[ah (eP<|cW (Y4 e) hge),ah (unt b n)];exact n
   ·by_cases z:b=P
    ·exact⟨_,(congrArg _ z).trans hP2⟩
    ·exact⟨o,kp b o z e⟩
   ·exact lkO b _ (λz=>by rw[z,hP]at q;cases q) q
   ·exact lkO b _ (λz=>by rw[z,hP]at q;cases q) q
   ·by_cases z:b=P
    ·exact⟨_,by rw[z,<- yx hP q z];exact lkP⟩
    ·exact⟨#[],by rw[lkO b _ z q];simp⟩
   ·exact(hm.extBut hx<|V8 hPL).push _
   ·by_cases z:a=c'
    ·subst z;rw[ae]at q;cases q;obtain⟨c2,oc,vs,t,e2,hoc,hd,hv⟩:=hrec;cases e2;refine⟨⟨a,oc,vs,t,rfl,Z2 _ hoc,hd,hv⟩,⟨oc,Z2 _ hoc⟩,λh1 h2 zq kk=>oq44 zq λc3 oc3 vs3 t3 e3 z1 z2 z3=>?_⟩;cases e3;exact⟨a,oc3,vs3,t3,rfl,kk _ z1,z2,z3⟩
    ·by_cases z2:a=P
     ·subst z2;rw[lkP]at q;cases q;exact hP2
     ·rw[ah z,ah z2]at q;refine(I.hok a o q).stay (λb u hb e=>kp b u ?_ e) (λb q=>lkO b _ (λz=>by rw[z,hP]at q;cases q) q) λb xs q=>lkO b _ (λz=>by rw[z,hP]at q;cases q) q;rcases hb with rfl|hb
      ·exact z2
      ·intro e;rw[e,hP]at hb;cases hb
  exact h h'.objs.size cl ((X.mg "__name__").getD .none) c' ctv _ _ (I1.addPin (Y7 _ rfl) (by rw[ah (O2 hlt),ah (λz=>by rw[z]at hsz;exact VR (cW (I.hok.lt hP) hsz)<|Q0 _)];exact I.hok.fresh hsz) (O2<|cW I.lt hsz) (I.nofs hsz) λv z=>nomatch z)
   (.inr ⟨ps,c',pos,hP,hf,hcn,hcP,rfl⟩) ae CL
end
end
end L2

namespace Pu
def getD_at{α:Type}{l:List α}{d:α}(h:i<l.length):l.getD i d=l[i]:=by simp[h]
def keysOf(g:Zu):List Int->Option (List<|Int×Int)
 |[]=>Wb []
 |x ::xs=>(g x).bind λk=>(keysOf g xs).bind λks=>Wb (k ::ks)
def BL(ns:ZW)(ps:ZF):List Int:=((ps.zip ns).mergeSort λa b=>nU a.1 b.1).map (·.2)
def yy(g:Zu)(ns:ZW):Option (List Int):=(keysOf g ns).bind λps=>if ns.length<64/\ps.Nodup then Wb (BL ns ps) else Wc
def xa{g:Zu}:∀{ns:ZW} {ps:ZF},keysOf g ns=Wb ps->ps.length=ns.length:=by
 intro ns;induction ns with
 |nil=>exact λh=>Z4 h▸rfl
 |cons n ns ih=>exact λh=>bN (L2.a8 h) λk x h=>bN (L2.a8 h) λks e h=>Z4 h▸congrArg Nat.succ (ih e)
def srtK_of(hl:ps.length=ns.length)(hn:ps.Nodup){ix:ZT}(hi:∀i∈ix,i<ns.length)(h:ix.map (λi=>ps.getD i (0,0))=lY ps):ix.map (λi=>ns.getD i 0)=BL ns ps:=by
 have hz:ix.map (λi=>(ps.zip ns).getD i ((0,0),0))=(ps.zip ns).mergeSort λa b=>nU a.1 b.1:=by
  have key:((ps.zip ns).mergeSort λa b=>nU a.1 b.1).map (·.1)=lY ps:=by
   refine dD (le:=λa b=>nU a b=Wd) (λa b=>uN) ?_ ?_<|jw ps
   ·refine List.Perm.trans ((O5 _ _).map _) ?_;rw[show (ps.zip ns).map (·.1)=ps by rw[List.map_fst_zip];exact bK hl];exact(jS ps).symm
   ·rw[P8];exact N4 (λa b c=>mQ a.1 b.1 c.1) (λa b=>mR a.1 b.1)<|ps.zip ns
  have inj:∀a∈ps.zip ns,∀b∈ps.zip ns,a.1=b.1->a=b:=by intro a ha b hb e;obtain⟨i,hi,rfl⟩:=List.mem_iff_getElem.mp ha;obtain⟨j,hj,rfl⟩:=List.mem_iff_getElem.mp hb;simp only[List.getElem_zip]at e ⊢;have:i=j:=(List.getElem_inj hn).mp e;subst this;rfl
  have e1:(ix.map λi=>(ps.zip ns).getD i ((0,0),0)).map (·.1)=((ps.zip ns).mergeSort λa b=>nU a.1 b.1).map (·.1):=by rw[key,<- h,V4];apply U1;intro i hi';have h1:=hi i hi';show ((ps.zip ns).getD i ((0,0),0)).1=ps.getD i (0,0);rw[getD_at (by simp;lia),getD_at (by exact cW h1<|bK hl.symm)];simp
  have lm:∀(l m:List ((Int×Int)×Int)),(∀a∈l,a∈ps.zip ns)->(∀a∈m,a∈ps.zip ns)->l.map (·.1)=m.map (·.1)->l=m:=by
   intro l;induction l with
   |nil=>intro m _ _ e;cases m with
    |nil=>rfl
    |cons _ _=>cases e
   |cons a l ih=>intro m h1 h2 e;cases m with
    |nil=>cases e
    |cons b m =>rw[V7,V7]at e;injection e with e3 e4;rw[inj a (h1 a (by simp)) b (h2 b (by simp)) e3,ih m (λx hx=>h1 x (by simp[hx])) (λx hx=>h2 x (by simp[hx])) e4]
  refine lm _ _ (λa ha=>?_) (λa ha=>(O5 _ _).subset ha) e1;obtain⟨i,hi',rfl⟩:=U3.mp ha;have h1:=hi i hi';rw[getD_at (by simp;lia)];exact E9 _
 unfold BL;rw[<- hz,V4];apply U1;intro i hi';have h1:=hi i hi';show ns.getD i 0=((ps.zip ns).getD i ((0,0),0)).2;rw[getD_at (l:=ps.zip ns) (by simp;lia),getD_at h1];simp
end Pu

namespace L2
open Pu
section
open PySem PySem.Spec PyProof.Rows
variable [Kn:Kon]
def pG(tb:TE)(st:V->St)(fin:List V->Hp->Prop):List V->List V->Hp->Prop
 |[],ks,H=>fin ks H
 |x ::r,ks,H=>tb (st x) H λk H'=>pG tb st fin r (ks++[k]) H'
def xb(vs:List V)(Q:VK)(ks:List V)(H:Hp):Prop:=∃ps:List (Int×Int),Paired ((ga a7 a7).rel H) ks ps/\ks.length=vs.length/\ps.Nodup /\
 ∀q (ix:ZT),H q=Wc->(∀i∈ix,i<vs.length)->ix.map (λi=>ps.getD i (0,0))=lY ps->Q (.ref q) (aB H q<|.lst (ix.map λi=>vs.getD i .non))
def BN(K:Z1)(P:Wy)(cap:ZI)(te tb:TE):TE:=λσ H Q=>te σ H λv H1=>∃p vs,v=.ref p/\dj K H1 p vs/\vs.length<64/\TbG H1 /\
 ∀H2 c,tm P H1 H2->H2 c=Wb (.ext<|bh c<|Kon.Q P)->pG (λσ H Q=>H c=Wb (.ext<|bh c<|Kon.Q P)/\tb σ H Q) (λx=>hU x cap σ) (xb vs Q) vs [] H2
def Sm.seq{K:Z1}(e:Sm H H')(h:dj K H a xs):dj K H' a xs:=by
 rcases h with (h|⟨o,h⟩)|h
 ·exact .inl<|.inl<|e.kp _ _ trivial h
 ·exact .inl<|.inr ⟨o,e.kp _ _ trivial h⟩
 ·exact .inr h
section
variable {X:Cx}{A:WE}{ZY:ZN}{σ:St}{H:Hp}{s:Ww}{x:Str}{cap:ZI}{scope:WY}{cl:Zt}{f:Wy}{cd:Wx}
def Inv.relist(I:Inv X ((kS,o) ::ZY) σ H s)(hz:X.s₀.heap.objs.size<=kS)(hp:∀p∈X.pn++ZY,p.1≠kS)(hc:∀v,o'.data≠.cell v)(k:∀b ob,b≠kS->s.heap.get? b=Wb ob->h'.get? b=Wb ob)(h:h'.get? kS=Wb o'):
  Inv X ((kS,o') ::ZY) σ H {s with heap:=h'}:=by
 obtain⟨p1,p2,p3,p4,p5⟩:=I.pin (kS,o)<|Y2 _<|Y1.mpr<|.inl rfl;have I0:Inv X ZY σ H s:=I.pins_of λp hp=>I.pin p<|Y2 _<|Y1.mpr<|.inr hp;have I1:Inv X ZY σ H {s with heap:=h'}:=I0.turned (t':=s.toks) k p2 p3 (.inr hz) (λy c e z=>by obtain⟨v,ob,ho,hd⟩:=I.cell y c e;rw[z]at ho;have:Wb ob=Wb o:=ho.symm.trans p1;cases this;exact p5 v hd) hp
 exact I1.addPin h p2 p3 p4 hc
open PySem.W in
def BO{body:WC}{pm ctv:Wx}{c':Wy}{qual:Str}{tb:TE}{D kS:Wy}{oD:Obj}{Fi:Zh}{fin:List V->Hp->Prop}(S:LamScope X x cap scope)(C:LamCl X scope cl)(hA:A.frames=Wb X.stack)(hh:A.handled=Wc)(hd:A.depth<E7)(hb:∀cl pm cd ct u,E8 (kla_fn "<lambda>" qual params body scope cl pm cd ct) ⟨[u],[]⟩=pure [(x,u)])(hp:∀f cd cl s H,PE (lZ X A (x ::cap.map (·.1)) qual scope f cd cl s H) body tb)(hz:X.s₀.heap.objs.size<=kS)(hpn:∀p∈X.pn++((D,oD) ::(f,kla_obj "<lambda>" qual params body scope cl pm c' ctv) ::ZY),p.1≠kS)(hfin:∀(e:Nat) ks kvs H s,Inv X ((kS,VB "list" (U4 kvs) e) ::(D,oD) ::(f,kla_obj "<lambda>" qual params body scope cl pm c' ctv) ::ZY) σ H s->aS ks kvs->fin ks H->Fi kvs s):
  ∀(r:List V) (Wj:ZO) (ks:List V) (kvs:ZO) (e:Nat) (H:Hp) (s:Ww),Inv X ((kS,VB "list" (U4 kvs) e) ::(D,oD) ::(f,kla_obj "<lambda>" qual params body scope cl pm c' ctv) ::ZY) σ H s ->
   aS r Wj->aS ks kvs->(pG (λσ H Q=>H c'=Wb (.ext<|bh c' qual)/\tb σ H Q) (λv=>hU v cap σ) fin r ks H)->jx X.prog X.w A (.ref f) kS Fi Wj kvs s:=λrr Wj ks kvs e H s I tt rk h=>by
 induction tt generalizing ks kvs e H s with
 |nil=>exact hfin e ks kvs H s I rk h
 |@cons v u _ _ r t ih =>
  obtain⟨h0,h⟩:=h;have po:=I.pin (f,kla_obj "<lambda>" qual params body scope cl pm c' ctv) (by simp);refine T8 (tj S C I po.1 hA hh hd h0 hb (hp _ _ _ _ _) r h) (λk s1 he=>?_) λa a z=>z;obtain⟨kv,H1,I1,rv,q⟩:=he;have pk:=I1.pin (kS,VB "list" (U4 kvs) e) (by simp);refine⟨⟨e,pk.1⟩,?_⟩;have ea:(U4 kvs).push k=U4 (kvs++[k]):=by simp
  obtain⟨e2,hn⟩:∃e2,(s1.heap.update kS<|X0 (·.push k)).get? kS=Wb (VB "list" (U4<|kvs++[k]) e2):=⟨_,by rw[<- ea];exact M7 pk.1 (·.push k)⟩;exact ih _ _ e2 H1 _ (I1.relist hz hpn (λv z=>nomatch z) (λb ob nb q=>by rw[W9 _ _ _ _ nb];exact q) hn) (rk.append<|.cons rv .nil) q
def zN{P':ZN}(I:Inv X ((kS,VB "list" (U4 kvs) e) ::(D,VB "list" #[] e1) ::ZY) σ H s)(hDk:D<kS)(hz:X.s₀.heap.objs.size<=D)(hpn:∀p∈X.pn++ZY,p.1≠kS/\p.1≠D)(ZQ:vs.length<64)(rk:aS ks kvs)(rv:aS vs Wj)(h:xb vs Q ks H):j1 X.prog X.w A D e1 kS Wj (λx s'=>EP X ZY σ Q (.ref D) s') kvs s:=by
 obtain⟨ps,hP,hl,hnd,q⟩:=h;have pk:=I.pin (kS,VB "list" (U4 kvs) e) (by simp);have pd:=I.pin (D,VB "list" #[] e1) (by simp);have l1:=rk.length;have l2:=rv.length;have l3:=hP.length;have pa:=aS.pairs I rk hP;have el:Wj.length=ps.length:=by exact T9 (aO (bK l2.symm)<|aO (bK hl.symm)<|bK l3)<|aO (bK l3.symm)<|aO (bK hl)<|bK l2
 refine⟨pd.1,tuples' Wd,λi j=>dZ (ps.getD i (0,0))<|ps.getD j (0,0),by rw[el];exact rq hnd,λh2 Q' hq=>?_,λi j C hi hj hC=>rp pa (by exact cW hi<|aO (bK l2.symm)<|aO (bK hl.symm)<|bK l1) (by exact cW hj<|aO (bK l2.symm)<|aO (bK hl.symm)<|bK l1) hC,λp1 a1 u1=>?_⟩
 ·obtain⟨fs,g1,g2,g3⟩:=pa.tups;refine PySem.W.kat_kind (T:=.type "int") g1 (by lia) (λv hv=>?_) rfl hq;obtain⟨i,t,rfl⟩:=g3 v hv;exact .now
 ·rw[el]at a1 u1;have eu:=BG hnd a1 u1;have hlt:∀i∈p1.toList,i<ps.length:=λi hi=>by have:=a1.pm.subset hi;simpa using this
  have neD:∀b o,b≠kS->b≠D->s.heap.get? b=Wb o->((s.heap.update kS (X0 λx=>#[])).update D (X0 λx=>gb Wj p1)).get? b=Wb o:=λb o n1 n2 e=>by rw[W9 _ _ _ _ n2,W9 _ _ _ _ n1];exact e
  have hD1:(s.heap.update kS (X0 λx=>(#[]:Array Wx))).get? D=Wb (VB "list" #[] e1):=by rw[W9 _ _ _ _ (eP hDk)];exact pd.1
  obtain⟨e2,hD2⟩:∃e2,((s.heap.update kS (X0 λx=>#[])).update D (X0 λx=>gb Wj p1)).get? D=Wb (VB "list" (gb Wj p1) e2):=⟨_,M7 hD1 λx=>gb Wj p1⟩;have unt:∀b o,H b=Wb o->b≠kS/\b≠D:=λb o z=>⟨ag z pk.2.1,ag z pd.2.1⟩;have noc:∀y c,X.env.cells.lookup y=Wb c->c≠kS/\c≠D:=λy c z=>by
   obtain⟨v,ob,ho,hd⟩:=I.cell y c z;refine⟨λw=>?_,λw=>?_⟩
   ·rw[w]at ho;exact pk.2.2.2.2 v (by rw[<- Z4 (ho.symm.trans pk.1)];exact hd)
   ·rw[w]at ho;exact pd.2.2.2.2 v (by rw[<- Z4 (ho.symm.trans pd.1)];exact hd)
  have I0:Inv X ZY σ H s:=I.pins_of λp hp=>I.pin p<|Y2 _<|Y1.mpr<|.inr<|Y1.mpr<|.inr hp;have I1:Inv X ZY σ (aB H D<|.lst (p1.toList.map λi=>vs.getD i .non)) {s with heap:=(s.heap.update kS (X0 λx=>#[])).update D (X0 λx=>gb Wj p1)}:=by
   refine I0.step (g':=s.gens) (d':=s.drawn) (t':=s.toks) (ch:=[kS,D]) (λb hb=>?_) (λb o x x hc e x=>neD b o (λz=>hc (by simp[z])) (λz=>hc (by simp[z])) e) (λb o x x hc e x=>⟨o.slots,neD b o (λz=>hc (by simp[z])) (λz=>hc (by simp[z])) e⟩)
    (λb o hc x n=>by rw[ah λz=>hc (by simp[z])];exact n) (λb o hc e=>⟨o,neD b o (λz=>hc (by simp[z])) (λz=>hc (by simp[z])) e⟩) (λb xs z=>by rw[ah (unt b _ z).2];exact z) (λb o u z=>by rw[ah (unt b _ z).2];exact z) (λb ps z=>⟨#[],by rw[ah (unt b _ z).2,z];simp⟩) (λm hm=>?_) (λa o z=>?_) I.bare
   ·have hb:b=kS\/b=D:=by simpa using hb
    rcases hb with rfl|rfl
    ·exact(qr (.inr<|aO hz<|cj hDk) pk.2.2.1 (λy c z=>(noc y c z).1) λp hp=>(hpn p hp).1)
    ·exact(qr (.inr hz) pd.2.2.1 (λy c z=>(noc y c z).2) λp hp=>(hpn p hp).2)
   ·obtain⟨o,es,ep,ho,r⟩:=hm;exact⟨o,es,ep,neD _ o (V8 pk.2.2.1) (V8 pd.2.2.1) ho,r⟩
   ·by_cases w:a=D
    ·subst w;rw[ae]at z;cases z;refine⟨by rw[Z5,V5,a1.sz,V0];exact cj<|dM (bK l3.symm)<|dM (bK hl)<|fD ZQ (by decide),p1.toList.map λi=>Wj.getD i J9,e2,gc λi hi=>t9 rv (by have:=hlt i hi;exact cW this<|aO (bK l3.symm)<|bK hl),hD2⟩
    ·rw[ah w]at z;refine(I.hok a o z).stay (λb u hb e=>?_) (λb z=>by rw[ah (unt b _ z).2];exact z) λb xs z=>by rw[ah (unt b _ z).2];exact z
     rcases hb with rfl|hb
     ·exact neD _ _ (unt _ _ z).1 (unt _ _ z).2 e
     ·exact neD _ _ (unt _ _ hb).1 (unt _ _ hb).2 e
  exact⟨.ref D,_,I1,rfl,q D _ pd.2.1 (λi hi=>by have:=hlt i hi;exact cW this<|aO (bK l3.symm)<|bK hl) eu⟩
def One(Q1:V->Hp->Prop)(xs:List V)(H:Hp):Prop:=match xs with|[v]=>Q1 v H|_=>False
def One.got{Q1:V->Hp->Prop}(r:aS vv us)(q:One Q1 vv H):∃v u,us=[u]/\RelV v u/\Q1 v H:=by
 cases r with
 |nil=>exact q.elim
 |cons a b =>
  cases b with
  |nil=>exact⟨_,_,rfl,a,q⟩
  |cons _ _=>exact q.elim
open PySem.W in
def BP{P c:Wy}{params:Arguments}{body e:WC}{p pos kpos lpos:Pos}{te tb:TE}(he:PE X e te)(hr:Room 3 X.A)(hm:X.mg "sorted"=Wc)(bm:BM X.mg X.base)(hC:codeHdIn X.K c P=Wd)(hT:P∈Kon.T)(hq:Kon.Q P=X.env.qual++"<lambda>")(hcode:X.env.code=.ref c)(S:LamScope X x cap scope)(hb:∀cl pm cd ct u,E8 (kla_fn "<lambda>" (Kon.Q P) params body scope cl pm cd ct) ⟨[u],[]⟩=pure [(x,u)])(hp:∀f cd cl s H,PE (lZ X X.A.in1.in1 (x ::cap.map (·.1)) (Kon.Q P) scope f cd cl s H) body tb)(hg:autoParam (Gl X "sorted") cV._auto_1)(hdef:autoParam (defaultsOf params X.env=([],[])) cV._auto_1)(hst:autoParam (X5 [e] X.env=(We,WF e X.env) ::X5 [] X.env) cV._auto_1)(hpl:autoParam ((WI pos<|X5 [e] X.env).any (·.1)=We) cV._auto_1):
  PE X (.Call (.Name "sorted" p) [e] [⟨Wb "key",.Lambda params body scope lpos,kpos⟩] pos) (BN X.K P cap te tb):=by
 intro ZY s σ H Q I h;refine L7<|iq I hg hm gT ?_;refine PyProof.Rows.callWith_kw ?_ (by rw[hst];rfl) hpl;have h1:(aK te bL) σ H (One λv H1=>∃p vs,v=.ref p/\dj X.K H1 p vs/\vs.length<64/\TbG H1/\∀H2 c,tm P H1 H2->H2 c=Wb (.ext<|bh c<|Kon.Q P)->pG (λσ H Q=>H c=Wb (.ext<|bh c<|Kon.Q P)/\tb σ H Q) (λx=>hU x cap σ) (xb vs Q) vs [] H2):=h;refine bI (aa he eQ hst pos ZY s σ H _ I h1) ?_;rintro us s1 ⟨vv,H1,I1,r,q⟩;show Wz _ _ (evalAll ((do let v <- WF (.Lambda params body scope lpos) X.env;Vk pos;pure v) :: [])) _ _ s1;obtain⟨v,u,rfl,ru,q9⟩:=One.got r q;obtain⟨l,vs,rfl,hS,ZQ,tg,q8⟩:=q9;cases ru;refine wpAny_evalAll_cons<|Z0 (BK (P:=P) I1 S tg hT hq hcode hC bm hdef λf cl pm c' ctv H2 s2 I2 ts hc' CL=>Z0<|WJ<|Z8<|wpAny_evalAll_nil ?_);show Wz _ _ (call (.builtin "sorted") [.ref l] [(F7 "key",.ref f)]) _ _ s2;obtain⟨Wj,rv,ht,hz⟩:=I2.list<|ts.sm.seq hS;have lv:=rv.length;refine wZ ht.isList (by exact dM (bK lv.symm) ZQ) λD e1 kS h' k1 k2 k3 k4 k5 k6=>?_;have I3:Inv X ((f,kla_obj "<lambda>" (Kon.Q P) params body scope cl pm c' ctv) ::ZY) σ H2 {s2 with heap:=h'}:=I2.kept (t':=s2.toks) k1;have big:∀b,s2.heap.objs.size<=b->H2 b=Wc/\b≠X.env.locals/\b∉X.fs:=λb hb=>(oG (I2.hok.fresh hb) (O2<|cW I2.lt hb)<|I2.nofs hb);have I4:=I3.addPin (f:=D) (o:=VB "list" #[] e1) k2 (big D k4).1 (big D k4).2.1 (big D k4).2.2 λv z=>nomatch z;have k4':s2.heap.objs.size<=kS:=aO k4<|cj k5;have I5:=I4.addPin (f:=kS) (o:=VB "list" #[] 0) k3 (big kS k4').1 (big kS k4').2.1 (big kS k4').2.2 λv z=>nomatch z;have old:∀p∈X.pn++((f,kla_obj "<lambda>" (Kon.Q P) params body scope cl pm c' ctv) ::ZY),p.1<s2.heap.objs.size:=λp hp=>Y4 (I2.pin p hp).1;have hpn:∀p∈X.pn++((D,VB "list" #[] e1) ::(f,kla_obj "<lambda>" (Kon.Q P) params body scope cl pm c' ctv) ::ZY),p.1≠kS:=λp hp=>by
  rcases Y9.mp hp with hp|hp
  ·exact eP<|cW (old p<|X8 _ hp) k4'
  ·rcases Y1.mp hp with rfl|hp
   ·exact eP k5
   ·exact eP<|cW (old p<|Y2 _ hp) k4'
 refine BO (A:=X.A.in1.in1) (oD:=VB "list" #[] e1) S CL I.ok.frames hr.hd (by have:=hr.dp;show X.A.depth<_;lia) hb hp (aO I2.sz k4') hpn (λe2 ks kvs H3 s3 J rk hk=>?_) vs Wj [] [] 0 H2 _ I5 rv .nil<|q8 H2 c' ts hc';have K:=zN (A:=X.A.in1.in1) (ZY:=(f,kla_obj "<lambda>" (Kon.Q P) params body scope cl pm c' ctv) ::ZY) (P':=ZY) J k5 (aO I2.sz k4) (λp hp=>⟨eP<|cW (old p hp) k4',eP<|cW (old p hp) k4⟩) ZQ rk rv hk;obtain⟨z0,κ,cc,z1,z2,z3,z4⟩:=K;refine⟨z0,κ,cc,z1,z2,z3,λp a1 a2=>?_⟩;obtain⟨v9,H9,I9,r9,q9⟩:=z4 p a1 a2;exact⟨v9,H9,I9.pins_of λp hp=>I9.pin p<|Y2 _<|Y1.mpr<|.inr hp,r9,q9⟩
end
end
section
open PySem PySem.Spec PyProof.Rows
variable [Kn:Kon]
def tm.ext(t:tm P H H')(sb:aL F H)(nt:NT F):Ext F H F H':=⟨t.sm,aL.refl _,λb o h=>t.sm.kp b o (by
 cases o with
 |tbl ps=>exact VR h (nt b ps)
 |_=>trivial)<|sb b o h,λx x h=>.inl h,λz=>z⟩
section
variable {Γ:List Slot}{te tb:TE}{K:Z1}{P:Wy}{cap:ZI}
def key_ev{g:Zu}{fin:List V->Hp->Prop}(hc:(cap.map (·.2)).Nodup)(hb:∀a,EV ((uH [x] cap Γ).set 0 (.fr a7 a)) tb (g a) (ga a7 a7))(hfin:∀F H ks,Ext F0 H0 F H->Paired ((ga a7 a7).rel F) ks ps->fin ks H):∀(r:ZW) (ks:List V) (kp pr:ZF) (F H:Hp),SR C F Γ σ H->Ext F0 H0 F H->H c=Wb (.ext<|bh c q)->Paired ((ga a7 a7).rel F) ks kp->keysOf g r=Wb pr->kp++pr=ps ->
   pG (λσ H Q=>H c=Wb (.ext<|bh c q)/\tb σ H Q) (λv=>hU v cap σ) fin (r.map V.int) ks H:=by
 intro r;induction r with
 |nil=>exact λks kp pr F H S x0 h0 hk e ep=>hfin F H ks x0<|(by rw[<- ep,<- Z4 e,V2]:kp=ps)▸hk
 |cons a r ih =>intro ks kp pr F H S x0 h0 hk e ep;obtain⟨k,e1,e⟩:=a8 e;obtain⟨ks',e2,e⟩:=a8 e;rw[<- Z4 e]at ep;refine⟨h0,hb a C F _ H _ k ((S.comp (loc:=[x]) hc).setF 0 (r:=a7) (a:=a) (v:=.int a) rfl) e1 λv F' H' x1 rv=>?_⟩;exact ih _ (kp++[k]) ks' F' H' (S.grow x1) (x0.trans x1) (x1.hh.kp _ _ trivial h0) (Paired.app (Paired.imp2 (λb b z=>Rp.mono _ x1.ff z) hk)<|.cons rv .nil) e2 (by rw[F8];exact ep)
set_option tactic.hygienic true in
def zO{g:Zu}(hc:(cap.map (·.2)).Nodup)(h:EV Γ te o (rL a7))(hb:∀a,EV ((uH [x] cap Γ).set 0 (.fr a7 a)) tb (g a) (ga a7 a7)):iR Γ (BN K P cap te tb) (o.bind λxs=>yy g xs) a7:=by
 intro C F σ H Q xs S e k;obtain⟨ns,e1,e⟩:=a8 e;unfold yy at e;obtain⟨ps,e2,e⟩:=a8 e;split at e
 ·rename_i hh;obtain⟨ZQ,hnd⟩:=hh;cases e;have hl:=xa e2;refine h C F σ H _ ns S e1 λv F1 H1 x1 ⟨p,vs,e3,h1,h2⟩=>?_;have ev:=dE h2;subst ev;refine(AB p _ e3 (.inl<|x1.sub.rd h1) (by rw[Z5];exact ZQ) ((S.grow x1).tg) λH2 c ts h0=>?_);have x2:=ts.ext (S.grow x1).sub (S.grow x1).nt;refine key_ev (ps:=ps) hc hb (λF' H' ks x3 hk=>?_) ns [] [] ps F1 H2 ((S.grow x1).grow x2) (x1.trans x2) h0 .nil e2 rfl;refine⟨ps,Paired.imp2 (λb b z=>Rp.mono _ x3.sub z) hk,by rw[hk.length,Z5,hl],hnd,λq ix hq hi hx=>?_⟩;rw[Z5]at hi;refine k q _ F' H' x3 hq ?_;rw[<- srtK_of hl hnd hi hx];refine gc λi hi'=>?_;have:=hi i hi';show (ns.map V.int).getD i .non=.int (ns.getD i 0);simp[this]
 ·cases e
end
def kN(K:Z1)(mg:ZM)(x:Str)(st:WH)(ps:ZL)(c:Wy):Prop:=∃f fd,Fun K x x st f fd/\Binds K fd ps []/\mg x=Wb (.ref f)/\fd.code=.ref c
def def_mkC{K:Z1}{mg:ZM}{st:WH}{kV Wu pm ZP ct:Wx}(X:K.In h)(G:h.Ns S6 mg)(a:PySem.W.nsIn K S6 x=Wb (Wb<|.ref f))(l:K.lookup f=Wb ⟨oc,od,.func<|T5 x x (bU st) (bb st) (ao st) .none kV Wu pm an ZP ct,osl⟩)(hcd:N8 K ZP x=Wd)(k:P1 K (.ref f)=Wd)(hc:ZP=.ref c)(hb:∀(kV Wu pm:Wx) (an:Zz) (ZP ct:Wx) (us:ZO),us.length=ps.length->E8 (T5 x x (bU st) (bb st) (ao st) .none kV Wu pm an ZP ct) ⟨us,[]⟩=pure (ps.zip us)):kN K mg x st ps c :=
 ⟨f,_,iV (st:=st) l hcd k,(iV (st:=st) l hcd k).binds hb,PySem.W.mg_of X G a,hc⟩
section
variable {P:W7}{w:WB}{K:Z1}{mg:ZM}{base:WD}{x:Str}{st:WH}{N ps:ZL}{k:Nat}{c:Wy}
def kN.has(D:kN K mg x st ps c)(S:FnScope N ps (ao st))(len:∀vs H Q E,sp vs H Q E->vs.length=ps.length)(Wv:∀(f:Wy) (A:WE) (outer:List Env) (s:Ww) (H:Hp) (vs:List V) (Q:VK) (E:XK),Room k (A.deeper<|VD x (ao st) s.heap.objs.size f<|.ref c)->sp vs H Q E ->
   ∃t,nQ (lD sH P w K mg base N x (ao st) f (.ref c) A outer s H E).nox (bb st) t/\t {nx:=λa H'=>Q .non H',rt:=Q} (start N vs) H):iu P w K mg base (k+1) x ps sp:=by
 obtain⟨f,fd,F,b,hm,hc⟩:=D;refine⟨f,fd,?_,hm,F.kp,b⟩;obtain⟨oc,od,kV,Wu,pm,an,ZP,ct,osl,rfl,lk,hcd⟩:=F.ex;obtain rfl:ZP=.ref c:=hc;refine AR lk hcd S len λA outer s H vs Q E hr hsp=>?_;obtain⟨t,h,q⟩:=Wv f A outer s H vs Q E hr hsp;exact(aD t h.nox q)
end
end
open PySem PySem.Spec PyProof.Rows
@[reducible] def konL(l:List (Wy×Str)):Kon:=⟨l.map (·.1),λb=>((l.find? λp=>p.1==b).map (·.2)).getD ""⟩
def oB(K:Z1)(T:Zy)(a:Wy)(H:Hp):Prop:=∀b u,H b=Wb u->(b=a/\K.lookup a=Wc/\∃o xs,u=.frz o (.lst xs))\/(b∈T/\u=.tbl #[])
def zP[Kn:Kon]{K:Z1}{mg mb:ZM}(KX:K.In s₁.heap)(hns:s₁.heap.Ns S6 mg)(hb:s₁.heap.Ns Vx mb)(hbb:∀x:Str,x≠"__name__"->mb x=Q2 x)(hlim:s₁.heap.NoLimit)(hbm:BM mg s₁.heap)(hg:s₁.gens=#[])(ha:s₁.heap.get? a=Wb {cls:=.type "list",data:=.seq vs.toArray})(hi:L4 vs ns)(hl:ns.length<=W0)(hr:Room k callerA)(hT:∀P∈Kon.T,s₁.heap.get? P=Wb (PySem.W.tabObj #[])/\(∃c,PySem.W.codeHdIn K c P=Wd)/\K.lookup P=Wc)(F:∀base:WD,K.In base->base.Ns S6 mg->BM mg base->FnOk P w K mg base CX k fa fd [x] sp)(hbind:∀(s:Ww) (u:Wx),BindsTo s fd ⟨[u],[]⟩ [(x,u)])(hsp:∀H:Hp,TbG H->dj K H a (ns.map V.int)->sp [.ref a] H (λv i=>v=.bl Wd) λi i i=>False)(hCX:∀H e s',CX [] H s₁ (λi i i=>False) e s'->False):
  D4 (WA P w) callerA (.call (.ref fa) ⟨[.ref a],[]⟩) (λr s'=>r=.ok (.ret<|.bool Wd)/\OldK s₁.heap s'.heap/\s'.os=s₁.os/\VI s'.gens) s₁:=by
 have rv:=iD hi;have lenV:=hi.length;have aT:a∉Kon.T:=λz=>by have:=(hT a z).1;rw[ha]at this;cases this
 have core:∀H:Hp,oB K Kon.T a H->TbG H->dj K H a (ns.map V.int)->l7 P w H s₁.heap ->
   D4 (WA P w) callerA (.call (.ref fa) ⟨[.ref a],[]⟩) (λr s'=>r=.ok (.ret<|.bool Wd)/\OldK s₁.heap s'.heap/\s'.os=s₁.os/\VI s'.gens) s₁:=by
  intro H hA tg hS hok;have free:∀{b:Wy} {o:Obj},s₁.heap.get? b=Wb o->(∀xs n,o.data≠.seq xs n)->(∀xs,o.data≠.fields xs)->H b=Wc:=λ{b o} e d1 d2=>by
   cases q:H b with
   |none=>rfl
   |some u =>
    rcases hA b u q with zr2_|zr1_
    ·obtain⟨z,_⟩:=zr2_;rw[z,ha]at e;cases e;exact VR rfl<|d1 _ _
    ·obtain⟨z,_⟩:=zr1_;rw[(hT b z).1]at e;cases e;exact VR rfl<|d2 _
  have nsK:∀{b:Wy} {m:ZM},s₁.heap.Ns b m->(se s₁.heap H).Ns b m:=λ{b m} zq=>oq33 zq λo es ep e d r=>⟨o,es,ep,oH e (free e (λi i z=>by rw[d]at z;cases z) λi z=>by rw[d]at z;cases z),d,r⟩;have hKb:K.In (se s₁.heap H):=λb o e=>oH (KX b o e) (by
   cases q:H b with
   |none=>rfl
   |some u =>
    rcases hA b u q with zr4_|zr3_
    ·obtain⟨z,z2,_⟩:=zr4_;rw[z,z2]at e;cases e
    ·obtain⟨z,_⟩:=zr3_;rw[(hT b z).2.2]at e;cases e)
  have hM:Mod K mg (se s₁.heap H):=⟨hKb,nsK hns,(aD mb (nsK hb) hbb),bN hlim λmc h1 h2=>⟨mc,nsK h1,h2⟩⟩;have hB:BM mg (se s₁.heap H):=by obtain⟨bm,ob,b1,b2,b3,b4,b5,b6⟩:=hbm;exact⟨bm,ob,b1,b2,oH b3 (free b3 (λi i z=>by rw[b6]at z;cases z) λi z=>by rw[b6]at z;cases z),b4,b5,b6⟩
  have e0:Env0 P w K mg (se s₁.heap H) callerA [] s₁ H:=⟨rfl,hM,λb o e=>of_hidT e,bK<|z6 _ _,trivial,λb hb=>VR (show b∈([]:List Wy) from hb) (by simp),hok,.of_eq hg⟩;refine D5 ((F _ hKb (nsK hns) hB).run callerA [] s₁ H ⟨[.ref a],[]⟩ [.ref a] [.ref a] _ _ hr e0 (hbind s₁<|.ref a) (.cons rfl .nil) (hsp H tg hS)) λr s' h=>?_;cases r with
  |error e=>exact(hCX H e s' h).elim
  |ok fl =>
   cases fl with
   |next=>exact O4 h
   |brk=>exact O4 h
   |cont=>exact O4 h
   |ret u =>
    obtain⟨v,H',os,bare,un,hok',r',q⟩:=h;have q':v=.bl Wd:=q;subst q';obtain rfl:u=Value.bool Wd:=r';have nof:∀b:Wy,b∉Az ([]:List Env):=λb z=>VR (show b∈([]:List Wy) from z) (by simp);refine(qr rfl ⟨λb o e=>?_,λb o e=>un.there b o e (by simp)⟩ os bare);cases q:H b with
    |none=>exact .inl<|un.keep b o e q (nof b) (by simp)
    |some u =>
     rcases hA b u q with zr6_|zr5_
     ·obtain⟨_,_,ob,xs,rfl⟩:=zr6_;have z2:=un.frzs b ob _ q;obtain⟨e1,_⟩:=hok b _ q;obtain⟨e2,_⟩:=hok' b _ z2;rw[e]at e1;cases e1;exact .inl e2
     ·obtain⟨z,rfl⟩:=zr5_;obtain⟨more,z3⟩:=un.tbls b #[] q;have z4:s'.heap.get? b=Wb (PySem.W.tabObj<|#[]++more):=(show bA P w H' s'.heap b (.tbl<|#[]++more) from hok' b _ z3);obtain⟨t1,⟨c,t2⟩,_⟩:=hT b z;rw[t1]at e;cases e;exact .inr (.inl ⟨((PySem.W.codeHd_of_K KX t2).tab t1).isCodeTable,rfl,#[],more,rfl,z4⟩)
 classical
 have tgOf:∀H:Hp,(∀P∈Kon.T,H P=Wb (.tbl #[]))->oB K Kon.T a H->TbG H:=λH h1 h2=>⟨λP hP=>⟨#[],h1 P hP⟩,λP ps e=>by
  rcases h2 P _ e with zr8_|zr7_
  ·obtain⟨_,_,o,xs,z⟩:=zr8_;cases z
  ·obtain⟨_,z⟩:=zr7_;cases z;exact⟨trivial,λpos cv h=>by simp[Ve]at h⟩⟩
 cases hk:K.lookup a with
 |some o =>
  have e:=KX a o hk;rw[ha]at e;cases e;have s1:oB K Kon.T a (λb=>if b∈Kon.T then Wb (.tbl #[]) else Wc):=λb u z=>by
   by_cases hb:b∈Kon.T
   ·exact .inr ⟨hb,(Z4<|(VP hb).symm.trans z).symm⟩
   ·exact nomatch (VQ hb).symm.trans z
  refine core (λb=>if b∈Kon.T then Wb (.tbl #[]) else Wc) s1 (tgOf _ (λP hP=>VP hP) s1) (.inr ⟨_,vs.toArray,_,hk,rfl,rfl,rfl,(by rw[Y6,lenV];exact hl),(by simpa using rv)⟩) λb u z=>?_;rcases s1 b u z with zr10_|zr9_
  ·obtain⟨_,z2,_⟩:=zr10_;rw[hk]at z2;cases z2
  ·obtain⟨z1,rfl⟩:=zr9_;exact(hT b z1).1
 |none =>
  have s1:oB K Kon.T a (λb=>if b=a then Wb (.frz {cls:=.type "list",data:=.seq vs.toArray} (.lst<|ns.map V.int)) else if b∈Kon.T then Wb (.tbl #[]) else Wc):=λb u z=>by
   by_cases hb:b=a
   ·exact .inl ⟨hb,hk,_,_,(Z4<|(VP hb).symm.trans z).symm⟩
   ·have z:=(VQ hb).symm.trans z;by_cases hb:b∈Kon.T
    ·exact .inr ⟨hb,(Z4<|(VP hb).symm.trans z).symm⟩
    ·exact nomatch (VQ hb).symm.trans z
  refine core _ s1 (tgOf _ (λP hP=>(VQ fun z:P=a=>aT<|z▸hP).trans (VP hP)) s1) (.inl<|.inr ⟨{cls:=.type "list",data:=.seq vs.toArray},VP rfl⟩) λb u z=>?_;by_cases hb:b=a
  ·have z':=(VP hb).symm.trans z;cases z';subst hb;exact⟨ha,by rw[Z5];exact hl,vs,_,rv,ha⟩
  ·have z':=(VQ hb).symm.trans z;by_cases hb:b∈Kon.T
   ·have z':=(VP hb).symm.trans z';cases z';exact(hT b hb).1
   ·exact nomatch (VQ hb).symm.trans z'
def BQ[Kn:Kon]{l:PySem.W.OpenLaw}{XP:(Str->Option Wx)->WD->Prop}{YP:WB->WD->Prop}{K:WN->Z1}{sp:WB->Sp}(hn:l.most=Wb n)(hn2:n<=W0)(hdf:d.params.defaults=[])(hr:Room k callerA)(hY:∀(w:WB) (h:WD),YP w h->(K w.params).In h/\∀P∈Kon.T,h.get? P=Wb (PySem.W.tabObj #[]))(hC:∀(w:WB),∀P∈Kon.T,(K w.params).lookup P=Wc)(F:∀(w:WB) (mg:ZM) (fa:Wy) (h:WD),(K w.params).In h->h.Ns S6 mg->mg d.name=Wb (.ref fa) ->
   ∃fd:Vm,(∀(s:Ww) (u:Wx),BindsTo s fd ⟨[u],[]⟩ [(x,u)])/\(∀P∈Kon.T,∃c,PySem.W.codeHdIn (K w.params) c P=Wd) /\
    ∀base:WD,(K w.params).In base->base.Ns S6 mg->BM mg base->FnOk l.prog w (K w.params) mg base sH k fa fd [x] (sp w))(hsp:∀(w:WB) (H:Hp) (a:Wy) (ns:ZW),ns.length<=n->TbG H->dj (K w.params) H a (ns.map V.int)->sp w [.ref a] H (λv i=>v=.bl Wd) λi i i=>False):
  PySem.W.WalkO q loose XP YP l.row.toRowW d [] (λf vs=>PySem.call f vs):=by
 refine Att.uv hn hdf λw s₀ s₁ mg mb fa o pm cd Wu a vs ns G Y ho hd i hmg hobj hints hlen hg=>?_;obtain⟨KX,KT⟩:=hY w _ Y;obtain⟨fd,hb,hcd,hF⟩:=F w mg fa _ KX G.T.g hmg;exact zP KX G.T.g G.T.b G.T.builtins G.T.nolimit G.T.bmain hg hobj hints (aO hlen hn2) hr (λP hP=>(oG (KT P hP) (hcd P hP)<|hC w P hP)) hF hb (λH tg hS=>hsp w H a ns hlen tg hS) λH e s' z=>z
end L2

namespace Pu
def lrng(j:Int):Option (List Int):=if -(2^62)<=j/\j<2^62/\j.toNat<=16777216 then Wb (nats j.toNat) else Wc
end Pu

namespace L2
open Pu
section
open PySem PySem.Spec PyProof.Rows
variable [Kn:Kon]
structure LamAt(K:Z1)(mg:ZM)(base:WD)(c P:Wy)(x:Str):Prop where
 bm:BM mg base
 hd:PySem.W.codeHdIn K c P=Wd
 mem:P∈Kon.T
 nm:Kon.Q P=(x++".<locals>.")++"<lambda>"
section
variable {X:Cx}{a:WC}{te:TE}{p pos:Pos}
def tRng(te:TE):TE:=λσ H Q=>te σ H λv H1=>∃j:Int,v=.int j/\-(2^62)<=j/\j<2^62/\∀q,H1 q=Wc->Q (.ref q) (aB H1 q<|.rng 0 j)
def pe_rng(he:PE X a te)(hg:Gl X "range")(hm:X.mg "range"=Wc)(hs:autoParam (X5 [a] X.env=[(We,WF a X.env)]) cV._auto_1):PE X (.Call (.Name "range" p) [a] [] pos) (tRng te):=by
 intro ZY s σ H Q I h;have h1:(aK te bL) σ H λxs H1=>∃j:Int,xs=[.int j]/\-(2^62)<=j/\j<2^62/\∀q,H1 q=Wc->Q (.ref q) (aB H1 q<|.rng 0 j):=by
  show te σ H λx H1=>∃j:Int,[x]=[.int j]/\-(2^62)<=j/\j<2^62/\∀q,H1 q=Wc->Q (.ref q) (aB H1 q<|.rng 0 j);have e:(λ(x:V) H1=>∃j:Int,[x]=[.int j]/\-(2^62)<=j/\j<2^62/\∀q,H1 q=Wc->Q (.ref q) (aB H1 q<|.rng 0 j))=λx H1=>∃j:Int,x=.int j/\-(2^62)<=j/\j<2^62/\∀q,H1 q=Wc->Q (.ref q) (aB H1 q<|.rng 0 j):=by funext x H1;simp
  rw[e];exact h
 refine L7<|iq I hg hm boot_range<|P7 (bI (aa he eQ hs pos ZY s σ H _ I h1) λus s1 ⟨vs,H1,I1,r1,q1⟩=>?_) hs rfl;obtain⟨j,rfl,q1,q2,q⟩:=q1;cases r1 with
 |cons r rr =>cases rr;obtain⟨t,rfl⟩:=r;exact call_range_1 ⟨.ref _,_,I1.laid (o:=.rng 0 j) (λb o e=>Z2 _ e) (bW _) ⟨_,_,_,Y7 _ rfl⟩,rfl,q _<|I1.hok.fresh<|bW _⟩
def BR:List V->Hp->VK->Prop:=λxs H Q=>∃r j,xs=[.ref r]/\H r=Wb (.rng 0 j)/\-(2^62)<=j/\j<2^62/\j.toNat<=16777216/\∀q,H q=Wc->Q (.ref q) (aB H q<|.lst<|(nats j.toNat).map V.int)
def xf(hc:X.calm=Wd):eG X (.type "list") BR:=by
 intro ZY s σ H xs us Q I r hh;obtain⟨l,j,rfl,hR,h1,h2,h3,q⟩:=hh;obtain⟨u,rfl,ru⟩:=vals1 r;cases ru;obtain⟨t,u,v,ho⟩:=(show bA X.prog X.w H s.heap l (.rng 0 j) from I.hok l _ hR);refine call_list_range (n:=j.toNat) (I.ok.hd hc) ho (small_one (by lia) (by lia) h1 h2) (by rw[rangeSize_one];split<;>lia) (by lia) λh' tk Wo c' hk hD hacc=>?_;have hl:Wo.toList.length=j.toNat:=by rw[V5];exact hacc.1
 refine⟨.ref _,_,I.laid (t':=tk) (o:=.lst<|(nats j.toNat).map V.int) hk (bW _) ⟨?_,Wo.toList,c',?_,by rw[hD]⟩,rfl,q _<|I.hok.fresh<|bW _⟩
 ·rw[V0];simp[nats];lia
 ·refine iD ?_;have key:∀(l:ZO) (k:Nat),(∀(i:Nat) v,l[i]?=Wb v->∃t,v=P3 ((k+i:Nat):Int) t)->L4 l ((List.range' k l.length).map λ(i:Nat)=>(i:Int)):=by
   intro l;induction l with
   |nil=>exact λk a=>.nil
   |cons x l ih =>intro k hx;obtain⟨t,rfl⟩:=hx 0 x rfl;rw[X2,List.range'_succ,V7];refine .cons _ t (ih (k+1) λi v e=>?_);obtain⟨t,e2⟩:=hx (i+1) v (by simpa using e);exact⟨t,by rw[e2];congr 2;try lia⟩
  have:=key Wo.toList 0 λi v e=>by obtain⟨t,e2⟩:=hacc.2 i v (by rw[<- R5];exact e);exact⟨t,by rw[e2];congr 1;try lia⟩
  rw[hl]at this;unfold nats;rw[List.range_eq_range'];exact this
end
set_option tactic.hygienic true in
def uP(h:EV Γ te oi a7):iR Γ (qV BR<|aK (tRng te) bL) (oi.bind λj=>lrng j) a7:=by
 intro C F σ H Q xs S e k;obtain⟨j,e1,e⟩:=a8 e;unfold lrng at e;split at e
 ·rename_i hh;cases e;refine h C F σ H _ j S e1 λv F' H' x1 r1=>(k8 j r1 hh.1 hh.2.1 λq hq=>⟨q,j,rfl,ae,hh.1,hh.2.1,hh.2.2,λl hl=>k l _ F' _ (x1.trans<|Ext.newH x1.sub hq) hl<|paired_ints _⟩)
 ·cases e
end
end L2

namespace Pu
def pH(g:Zu):List Int->Int->Int×Int->Option Int
 |[],b,_=>Wb b
 |x ::xs,b,kb=>(g x).bind λk=>if dZ k kb=Wd then pH g xs x k else pH g xs b kb
def BS(g:Zu):List Int->Option Int
 |[]=>Wc
 |x ::xs=>(g x).bind λk=>pH g xs x k
end Pu

namespace L2
open Pu
section
open PySem PySem.Spec PyProof.Rows
variable [Kn:Kon]
def kO(tb:TE)(st:V->St)(sq:Hp->Prop)(Q:VK):List V->V->V->Hp->Prop
 |[],b,_,H=>sq H/\Q b H
 |x ::r,b,kb,H=>sq H/\tb (st x) H λk H'=>∃pk pb,(ga a7 a7).rel H' k pk/\(ga a7 a7).rel H' kb pb/\(if dZ pk pb=Wd then kO tb st sq Q r x k H' else kO tb st sq Q r b kb H')
def tMinK(K:Z1)(P:Wy)(cap:ZI)(te tb:TE):TE:=λσ H Q=>te σ H λv H1=>∃p x r,v=.ref p/\dj K H1 p (x ::r)/\TbG H1 /\
 ∀H2 c,tm P H1 H2->H2 c=Wb (.ext<|bh c<|Kon.Q P)->H2 c=Wb (.ext<|bh c<|Kon.Q P)/\tb (hU x cap σ) H2 λk H'=>kO (λσ H Q=>H c=Wb (.ext<|bh c<|Kon.Q P)/\tb σ H Q) (λx=>hU x cap σ) (λH=>dj K H p (x ::r)) Q r x k H'
section
variable {X:Cx}{ZY:ZN}{σ:St}{H:Hp}{s:Ww}{x:Str}{cap:ZI}{scope:WY}{cl:Zt}{f:Wy}{cd:Wx}
def tq{h:WD}(h1:h.IsList l Wj)(h2:h.IsListIter i l' j):l≠i:=λz=>by obtain⟨o,ho,hc,_⟩:=h1;obtain⟨o2,ho2,hc2,_⟩:=h2;rw[z,ho2]at ho;cases ho;rw[hc2]at hc;simp at hc
def oC{a:Wy×Obj}{z:Wy}(h:∀p∈A++B,p.1<z)(ha:a.1≠z):∀p∈A++a ::B,p.1≠z:=λp hp=>by
 rcases Y9.mp hp with q|q
 ·exact eP<|h p<|X8 _ q
 ·rcases Y1.mp q with q|q
  ·rw[q];exact ha
  ·exact eP<|h p<|Y2 _ q
def Inv.noc(I:Inv X ZY σ H s)(hm:(a,o)∈X.pn++ZY):∀y c,X.env.cells.lookup y=Wb c->c≠a:=λy c e z=>by obtain⟨v,ob,ho,hd⟩:=I.cell y c e;obtain⟨q1,_,_,_,q5⟩:=I.pin (a,o) hm;rw[z]at ho;have:Wb ob=Wb o:=ho.symm.trans q1;cases this;exact q5 v hd
def Inv.swap(I:Inv X (a ::b ::ZY) σ H s):Inv X (b ::a ::ZY) σ H s:=I.pins_of λp hp=>I.pin p (Y2 _ (by
 simp only[Y1]at hp ⊢;rcases hp with h|h|h
 ·exact .inr (.inl h)
 ·exact .inl h
 ·exact .inr<|.inr h))
def Inv.drop1(I:Inv X (a ::ZY) σ H s):Inv X ZY σ H s:=I.pins_of λp hp=>I.pin p<|Y2 _<|Y1.mpr<|.inr hp
def Inv.relistT(I:Inv X ((kS,o) ::ZY) σ H s)(hz:X.s₀.heap.objs.size<=kS)(hp:∀p∈X.pn++ZY,p.1≠kS)(hc:∀v,o'.data≠.cell v)(k:∀b ob,b≠kS->s.heap.get? b=Wb ob->h'.get? b=Wb ob)(h:h'.get? kS=Wb o'):
  Inv X ((kS,o') ::ZY) σ H {s with heap:=h',toks:=t'}:=by
 have I1:=(I.relist hz hp hc k h).tok t';exact I1
def pair_lt{E:ZU}{Q:ZU}(I:Inv X ZY σ H s)(ra:RelV a u)(rb:RelV b v)(ha:(ga a7 a7).rel H a pa)(hb:(ga a7 a7).rel H b pb)(hu:A.units<WO)(h:Q (.bool<|dZ pa pb) s):
  Wz (WA X.prog X.w) A (R8 .Lt u v) Q E s:=by
 obtain⟨p,a1,a2,rfl,h1,h2,h3⟩:=ha;obtain⟨p',b1,b2,rfl,h4,h5,h6⟩:=hb;cases ra;cases rb;cases h2;cases h3;cases h5;cases h6;obtain⟨Wj,r1,p1,_⟩:=I.tuple<|l9.of (K:=X.K) h1;obtain⟨its2,r2,p2,_⟩:=I.tuple<|l9.of (K:=X.K) h4;have i1:L4 Wj.toArray.toList [pa.1,pa.2]:=intsAre_of (by simpa using r1);have i2:L4 its2.toArray.toList [pb.1,pb.2]:=intsAre_of (by simpa using r2);refine HT.kE p1 p2 i1 i2 hu ?_;rw[pE];exact h
open PySem.W in
def min_inv{body:WC}{pm ctv:Wx}{c':Wy}{qual:Str}{tb:TE}{I9 S9 l:Wy}{vs:List V}{Q:VK}{L:ZN}{R:Vr->Ww->Prop}(hfL:(f,kla_obj "<lambda>" qual params body scope cl pm c' ctv)∈L)(hR:∀u s',EP X L σ Q u s'->R (.ok<|.ret u) s')(S:LamScope X x cap scope)(C:LamCl X scope cl)(hA:X.A.frames=Wb X.stack)(hh:X.A.handled=Wc)(hd:X.A.depth<E7)(hu:X.A.in1.units<WO)(hb:∀cl pm cd ct u,E8 (kla_fn "<lambda>" qual params body scope cl pm cd ct) ⟨[u],[]⟩=pure [(x,u)])(hp:∀f cd cl s H,PE (lZ X X.A.in1 (x ::cap.map (·.1)) qual scope f cd cl s H) body tb)(hzI:X.s₀.heap.objs.size<=I9)(hzS:X.s₀.heap.objs.size<=S9)(hIS:I9<S9)(hpn:∀p∈X.pn++L,p.1<I9):
  ∀(r:List V) (j:Nat) (bV kV:V) (vb kb:Wx) (c:Nat) (oI:Obj) (H:Hp) (s:Ww),vs.drop j=r->j<=vs.length ->
   Inv X ((S9,VB "list" #[vb,kb] c) ::(I9,oI) ::L) σ H s->s.heap.IsListIter I9 l j->RelV bV vb->RelV kV kb ->
   kO (λσ H Q=>H c'=Wb (.ext<|bh c' qual)/\tb σ H Q) (λv=>hU v cap σ) (λH=>dj X.K H l vs) Q r bV kV H ->
   D4 (WA X.prog X.w) X.A (.builtin "min.loop" ⟨[.ref I9,.ref f,.ref S9],[]⟩) R s:=by
 intro r;induction r with
 |nil =>
  intro j bV kV vb kb c oI H s er hj I hit rb rk h;obtain⟨hS,hq⟩:=h;have hjl:j=vs.length:=by have:=congrArg F6 er;simp at this;(clear hq hS rk rb hit I er hpn hIS hzS hzI hp hb hu hd hh hA C S;lia)
  subst hjl;have pS:=I.pin (S9,VB "list" #[vb,kb] c) (by simp);have pI:=I.pin (I9,oI) (by simp);obtain⟨Wj,rv,ht,hz⟩:=I.list hS;have hlI:=tq ht.isList hit;have W:=Walks.list (prog:=X.prog) (w:=X.w) (A:=X.A.in1) hh I9 l hlI Wj.toArray;have hsz:Wj.toArray.size=vs.length:=by rw[Y6,<- rv.length]
  refine P2 N9 ?_;rw[R0 V9 _];show Wz _ X.A.in1 (seqItems? (.ref S9) >>= _) _ _ _;refine Z0<|G4 pS.1 rfl ?_;show Wz _ X.A.in1 (tryCatch (WU<|.ref I9) _ >>= _) _ _ _;refine Z0<|M0 (W.done _ _ _ ⟨by rw[hsz];exact hit,ht.isList⟩ λh' tk' hk'=>?_);have hk2:∀b o,b≠I9->s.heap.get? b=Wb o->h'.get? b=Wb o:=λb o nb e=>hk' b o (by simpa using nb) e;have hS':=hk2 S9 _ (O2 hIS) pS.1;show Wz _ X.A.in1 (updateSeq S9 (λa=>#[]) >>= _) _ _ _;refine Z0 ?_;refine J0 hS' rfl<|Z0<|D3<|Z8 ?_;have I0:Inv X L σ H s:=I.drop1.drop1;have I1:=I0.turned (t':=tk') hk2 pI.2.1 pI.2.2.1 (.inr hzI) (I.noc (o:=oI) (by simp)) λp hp=>eP<|hpn p hp;have I2:=I1.turned (h':=h'.update S9 (X0 λa=>#[])) (t':=tk') (it:=S9) (λb o nb e=>by rw[W9 _ _ _ _ nb];exact e) pS.2.1 pS.2.2.1 (.inr hzS) (I.noc (o:=VB "list" #[vb,kb] c) (by simp)) λp hp=>eP<|fD (hpn p hp) hIS;exact hR _ _ ⟨bV,H,I2,rb,hq⟩
 |cons y r ih =>
  intro j bV kV vb kb c oI H s er hj I hit rb rk h;obtain⟨hS,h0,h⟩:=h;have hjl:j<vs.length:=by have:=congrArg F6 er;simp at this;lia
  have ey:vs[j]?=Wb y:=by
   have:(vs.drop j)[0]?=Wb y:=by rw[er];rfl
   rw[List.getElem?_drop]at this;simpa using this
  have er':vs.drop (j+1)=r:=by
   have:(vs.drop j).drop 1=r:=by rw[er];rfl
   rw[List.drop_drop]at this;exact this
  have pS:=I.pin (S9,VB "list" #[vb,kb] c) (by simp);have pI:=I.pin (I9,oI) (by simp);obtain⟨Wj,rv,ht,hz⟩:=I.list hS;have hlI:=tq ht.isList hit;have W:=Walks.list (prog:=X.prog) (w:=X.w) (A:=X.A.in1) hh I9 l hlI Wj.toArray;have hsz:Wj.toArray.size=vs.length:=by rw[Y6,<- rv.length]
  refine P2 N9 ?_;rw[R0 V9 _];show Wz _ X.A.in1 (seqItems? (.ref S9) >>= _) _ _ _;refine Z0<|G4 pS.1 rfl ?_;show Wz _ X.A.in1 (tryCatch (WU<|.ref I9) _ >>= _) _ _ _;refine Z0<|M0 (W.item j _ _ _ (by rw[hsz];exact hjl) ⟨hit,ht.isList⟩ λv h' tk' hP hst' hk'=>?_);have hv:Wj[j]?=Wb v:=by simpa using hP
  obtain⟨u9,hu9,ru⟩:=rv.get ey;have:u9=v:=Z4<|hu9.symm.trans hv;subst this;have hk2:∀b o,b≠I9->s.heap.get? b=Wb o->h'.get? b=Wb o:=λb o nb e=>hk' b o (by simpa using nb) e;obtain⟨oI',hoI',hoc,hod⟩:=id hst'.1;have I1:=(I.swap.relistT (t':=tk') hzI (oC hpn<|O2 hIS) (λw z=>by rw[hod]at z;cases z) hk2 hoI').swap;show Wz _ X.A.in1 (tryCatch (WM [u9]<|call (.ref f) [u9]) _ >>= _) _ _ _;have po:=I1.pin _<|Y2 _<|.tail _<|.tail _ hfL;refine Z0<|M0<|T7 (T8 (tj (A:=X.A.in1) S C I1 po.1 hA hh hd h0 hb (hp _ _ _ _ _) ru h) (λk s2 he=>?_) λa a z=>z.elim);obtain⟨kv,H2,I2,rkv,pk,pb,g1,g2,g3⟩:=he;have pS2:=I2.pin (S9,VB "list" #[vb,kb] c) (by simp);have pI2:=I2.pin (I9,oI') (by simp);have hit2:s2.heap.IsListIter I9 l (j+1):=⟨oI',pI2.1,hoc,hod⟩;show Wz _ X.A.in1 (tryCatch (WM [u9,k]<|Vp .Lt k kb >>= _) _ >>= _) _ _ _;refine Z0<|M0<|T7<|Z0<|pair_lt (A:=X.A.in1) I2 rkv rk g1 g2 hu ?_;refine Z0<|T7<|R9 ?_;refine Z0<|D3<|Z8 ?_;cases hb':dZ pk pb with
  |true =>rw[hb',VP rfl]at g3;obtain⟨c2,hc2⟩:∃c2,(s2.heap.update S9 (X0 λa=>#[u9,k])).get? S9=Wb (VB "list" #[u9,k] c2):=⟨_,M7 pS2.1 λa=>#[u9,k]⟩;simp only[if_true];refine Z0 ?_;refine J0 pS2.1 rfl<|Z0<|D3 ?_;have I3:=I2.relist (o':=VB "list" #[u9,k] c2) (h':=s2.heap.update S9 (X0 λa=>#[u9,k])) hzS (oC (λp hp=>fD (hpn p hp) hIS)<|eP hIS) (λw z=>nomatch z) (λb o nb e=>by rw[W9 _ _ _ _ nb];exact e) hc2;have hit3:(s2.heap.update S9 (X0 λa=>#[u9,k])).IsListIter I9 l (j+1):=⟨oI',by rw[W9 _ _ _ _ (eP hIS)];exact pI2.1,hoc,hod⟩;exact Z8 ⟨N1 V9 _,ih (j+1) y kv u9 k c2 oI' H2 _ er' (by exact hjl) I3 hit3 ru rkv g3⟩
  |false =>rw[hb',VQ Z3]at g3;simp only[Q9,if_false];refine Z0<|D3 ?_;exact Z8 ⟨N1 V9 _,ih (j+1) bV kV vb kb c oI' H2 _ er' (by exact hjl) I2 hit2 rb rk g3⟩
open PySem.W in
def zQ{body:WC}{pm ctv:Wx}{c':Wy}{qual:Str}{tb:TE}{I9 S9 l:Wy}{y:V}{rest:List V}{Q:VK}{oI:Obj}{L:ZN}{R:Vr->Ww->Prop}(hfL:(f,kla_obj "<lambda>" qual params body scope cl pm c' ctv)∈L)(hR:∀u s',EP X L σ Q u s'->R (.ok<|.ret u) s')(S:LamScope X x cap scope)(C:LamCl X scope cl)(hA:X.A.frames=Wb X.stack)(hh:X.A.handled=Wc)(hd:X.A.depth<E7)(hu:X.A.in1.units<WO)(hb:∀cl pm cd ct u,E8 (kla_fn "<lambda>" qual params body scope cl pm cd ct) ⟨[u],[]⟩=pure [(x,u)])(hp:∀f cd cl s H,PE (lZ X X.A.in1 (x ::cap.map (·.1)) qual scope f cd cl s H) body tb)(hzI:X.s₀.heap.objs.size<=I9)(hzS:X.s₀.heap.objs.size<=S9)(hIS:I9<S9)(hpn:∀p∈X.pn++L,p.1<I9)(I:Inv X ((S9,VB "list" #[] 0) ::(I9,oI) ::L) σ H s)(hit:s.heap.IsListIter I9 l 0)(hS:dj X.K H l (y ::rest))(h0:H c'=Wb (.ext<|bh c' qual))(q:tb (hU y cap σ) H λkv H3=>kO (λσ H Q=>H c'=Wb (.ext<|bh c' qual)/\tb σ H Q) (λv=>hU v cap σ) (λH=>dj X.K H l (y ::rest)) Q rest y kv H3):
  D4 (WA X.prog X.w) X.A (.builtin "min.loop" ⟨[.ref I9,.ref f,.ref S9],[]⟩) R s:=by
 refine oF (I.list hS) λWj rv ht hz=>?_;have hlI:=tq ht.isList hit;have W:=Walks.list (prog:=X.prog) (w:=X.w) (A:=X.A.in1) hh I9 l hlI Wj.toArray;have hsz:0<Wj.toArray.size:=by rw[Y6,<- rv.length];exact Nat.succ_pos _
 refine P2 N9 ?_;rw[R0 V9 _];have pS:=I.pin (S9,VB "list" #[] 0) (by simp);show Wz _ X.A.in1 (seqItems? (.ref S9) >>= _) _ _ _;refine Z0<|G4 pS.1 rfl ?_;show Wz _ X.A.in1 (tryCatch (WU<|.ref I9) _ >>= _) _ _ _;refine Z0<|M0 (W.item 0 _ _ _ hsz ⟨hit,ht.isList⟩ λv h' tk' hP hst' hk'=>?_);have hv:Wj[0]?=Wb v:=by simpa using hP
 refine bN (rv.get (i:=0) (x:=y) rfl) λu9 hu9 ru=>?_;have:u9=v:=Z4<|hu9.symm.trans hv;subst this;refine oF (id hst'.1) λoI' hoI' hoc hod=>?_;have I6:=(I.swap.relistT (t':=tk') hzI (oC hpn<|O2 hIS) (λw z=>by rw[hod]at z;cases z) (λb o nb e=>hk' b o (by simpa using nb) e) hoI').swap;show Wz _ X.A.in1 (tryCatch (WM [u9]<|call (.ref f) [u9]) _ >>= _) _ _ _;have po:=I6.pin _<|Y2 _<|.tail _<|.tail _ hfL;refine Z0<|M0<|T7 (T8 (tj (A:=X.A.in1) S C I6 po.1 hA hh hd h0 hb (hp _ _ _ _ _) ru q) (λk s3 he=>?_) λa a z=>z.elim);refine k7 he λkv H3 I7 rkv g3=>?_;have pS2:=I7.pin (S9,VB "list" #[] 0) (by simp);have pI2:=I7.pin (I9,oI') (by simp);refine k0 (⟨_,M7 pS2.1 λa=>#[u9,k]⟩:∃c2,(s3.heap.update S9 (X0 λa=>#[u9,k])).get? S9=Wb (VB "list" #[u9,k] c2)) λc2 hc2=>?_;show Wz _ X.A.in1 (updateSeq S9 (λa=>#[u9,k]) >>= _) _ _ _;refine Z0 ?_;refine J0 pS2.1 rfl ?_;rw[show (toString "min"++toString ".loop":String)="min.loop" by decide];have I8:=I7.relist (o':=VB "list" #[u9,k] c2) (h':=s3.heap.update S9 (X0 λa=>#[u9,k])) hzS (oC (λp hp=>fD (hpn p hp) hIS)<|eP hIS) (λw z=>nomatch z) (λb o nb e=>by rw[W9 _ _ _ _ nb];exact e) hc2;exact Z8 ⟨N1 V9 _,min_inv (vs:=y ::rest) hfL hR S C hA hh hd hu hb hp hzI hzS hIS hpn rest 1 y kv u9 k c2 oI' H3 _ rfl (Nat.succ_le_succ<|U2 _) I8 ⟨oI',by rw[W9 _ _ _ _ (eP hIS)];exact pI2.1,hoc,hod⟩ ru rkv g3⟩
open PySem.W in
def pe_minK{P c:Wy}{params:Arguments}{body e:WC}{p pos kpos lpos:Pos}{te tb:TE}(he:PE X e te)(hr:Room 3 X.A)(hm:X.mg "min"=Wc)(bm:BM X.mg X.base)(hC:codeHdIn X.K c P=Wd)(hT:P∈Kon.T)(hq:Kon.Q P=X.env.qual++"<lambda>")(hcode:X.env.code=.ref c)(S:LamScope X x cap scope)(hb:∀cl pm cd ct u,E8 (kla_fn "<lambda>" (Kon.Q P) params body scope cl pm cd ct) ⟨[u],[]⟩=pure [(x,u)])(hp:∀f cd cl s H,PE (lZ X X.A.in1 (x ::cap.map (·.1)) (Kon.Q P) scope f cd cl s H) body tb)(hg:autoParam (Gl X "min") cV._auto_1)(hdef:autoParam (defaultsOf params X.env=([],[])) cV._auto_1)(hst:autoParam (X5 [e] X.env=(We,WF e X.env) ::X5 [] X.env) cV._auto_1)(hpl:autoParam ((WI pos<|X5 [e] X.env).any (·.1)=We) cV._auto_1):
  PE X (.Call (.Name "min" p) [e] [⟨Wb "key",.Lambda params body scope lpos,kpos⟩] pos) (tMinK X.K P cap te tb):=by
 intro ZY s σ H Q I h;refine L7<|iq I hg hm kI ?_;refine PyProof.Rows.callWith_kw ?_ (by rw[hst];rfl) hpl;have h1:(aK te bL) σ H (One λv H1=>∃p x r,v=.ref p/\dj X.K H1 p (x ::r)/\TbG H1/\∀H2 c,tm P H1 H2->H2 c=Wb (.ext<|bh c<|Kon.Q P)->H2 c=Wb (.ext<|bh c<|Kon.Q P)/\tb (hU x cap σ) H2 λk H'=>kO (λσ H Q=>H c=Wb (.ext<|bh c<|Kon.Q P)/\tb σ H Q) (λx=>hU x cap σ) (λH=>dj X.K H p (x ::r)) Q r x k H'):=h;refine bI (aa he eQ hst pos ZY s σ H _ I h1) ?_;intro us s1 zq;refine k7 zq λvv H1 I1 r q=>?_;show Wz _ _ (evalAll ((do let v <- WF (.Lambda params body scope lpos) X.env;Vk pos;pure v) :: [])) _ _ s1;refine k7 (One.got r q) λv u ZV ru q9=>rX q9 λl y rest ev hS tg q8=>?_;subst ZV;subst ev;clear q9;cases ru;refine wpAny_evalAll_cons<|Z0 (BK (P:=P) I1 S tg hT hq hcode hC bm hdef λf cl pm c' ctv H2 s2 I2 ts hc' CL=>Z0<|WJ<|Z8<|wpAny_evalAll_nil ?_);show Wz _ _ (call (.builtin "min") [.ref l] [(F7 "key",.ref f)]) _ _ s2;refine tZ (q8 H2 c' ts hc') λh0 q=>?_;have hS2:=ts.sm.seq hS;refine oF (I2.list hS2) λWj rv ht hz=>?_;have hname:(toString "min"++toString ".loop":String)="min.loop":=by decide
 refine kmk_tree PySem.F.kind_min PySem.F.plain_min PySem.F.entry_min (kmk_min_key _ _) ?_;show Wz _ X.A.in1 (J3 "min" ["key","default"] 0 ⟨[],[(F7 "key",.ref f)]⟩ >>= _) _ _ s2;refine Z0<|wpAny_of_eq (show J3 "min" ["key","default"] 0 ⟨[],[(F7 "key",.ref f)]⟩=pure [Wb (.ref f),Wc] from rfl) ?_;refine Z0<|Z8 ?_;refine Z0<|Vb ht.isList ?_;refine Z0<|E3 ?_<|U2 _;rw[hname];generalize hI9:s2.heap.objs.size=I9;have hS9:(s2.heap.push {cls:=.type "list_iterator",data:=.fields #[.ref l,.int 0 0]}).objs.size=I9+1:=by rw[<- hI9];exact VF ..
 have gI:((s2.heap.push {cls:=.type "list_iterator",data:=.fields #[.ref l,.int 0 0]}).push (VB "list" #[] 0)).get? I9=Wb {cls:=.type "list_iterator",data:=.fields #[.ref l,.int 0 0]}:=by rw[<- hI9];exact Z2 _<|Y7 _ rfl
 have gS:((s2.heap.push {cls:=.type "list_iterator",data:=.fields #[.ref l,.int 0 0]}).push (VB "list" #[] 0)).get? (I9+1)=Wb (VB "list" #[] 0):=by rw[<- hS9];exact Y7 _ rfl
 refine Z8 ⟨N1 V9 _,?_⟩;rw[hS9];have big:∀b,I9<=b->H2 b=Wc/\b≠X.env.locals/\b∉X.fs:=λb hb=>(oG (I2.hok.fresh (by exact aO (bK hI9) hb)) (O2<|cW I2.lt (by exact aO (bK hI9) hb))<|I2.nofs (by exact aO (bK hI9) hb));have I3:Inv X ((f,kla_obj "<lambda>" (Kon.Q P) params body scope cl pm c' ctv) ::ZY) σ H2 {s2 with heap:=(s2.heap.push {cls:=.type "list_iterator",data:=.fields #[.ref l,.int 0 0]}).push (VB "list" #[] 0)}:=I2.kept (t':=s2.toks) λb o e=>Z2 _<|Z2 _ e;have I4:=I3.addPin (f:=I9) gI (big I9<|bW _).1 (big I9<|bW _).2.1 (big I9<|bW _).2.2 λv z=>nomatch z;have I5:=I4.addPin (f:=I9+1) (o:=VB "list" #[] 0) gS (big (I9+1)<|R6 _).1 (big (I9+1)<|R6 _).2.1 (big (I9+1)<|R6 _).2.2 λv z=>nomatch z;have old:∀p∈X.pn++((f,kla_obj "<lambda>" (Kon.Q P) params body scope cl pm c' ctv) ::ZY),p.1<I9:=λp hp=>by rw[<- hI9];exact Y4 (I2.pin p hp).1
 have hzI:X.s₀.heap.objs.size<=I9:=by rw[<- hI9];exact I2.sz
 have hun:X.A.in1.units<WO:=by have:=hr.un;show X.A.units+1<_;lia
 have hdp:X.A.depth<E7:=by have:=hr.dp;(clear hun hzI old I5 I4 I3 big gS gI hS9 hI9 hname hz ht rv hS2 q h0 CL hc' ts I2 r tg hS I1 h1 h I hpl hst hdef hg hp hb S hcode hq hT hC bm hm hr he;lia)
 refine zQ (y:=y) (rest:=rest) (Q:=Q) (List.Mem.head _) (λu s' zz=>k7 zz λv9 H9 I9' r9 q9=>⟨v9,H9,I9'.drop1,r9,q9⟩) S CL I.ok.frames hr.hd hdp hun hb hp hzI (K3 hzI) (V3 _) old I5 ⟨_,gI,rfl,rfl⟩ hS2 h0 q
end
section
variable {Γ:List Slot}{te tb:TE}{K:Z1}{P:Wy}{cap:ZI}
def min_ev{g:Zu}(hc:(cap.map (·.2)).Nodup)(hb:∀a,EV ((uH [x] cap Γ).set 0 (.fr a7 a)) tb (g a) (ga a7 a7))(hfin:∀F H,Ext F0 H0 F H->Q (.int res) H):∀(r:ZW) (b:Int) (kV:V) (kb:ZA) (F H:Hp),SR C F Γ σ H->Ext F0 H0 F H->H c=Wb (.ext<|bh c q)->Rd F l (.lst vs)->(ga a7 a7).rel F kV kb->pH g r b kb=Wb res ->
   kO (λσ H Q=>H c=Wb (.ext<|bh c q)/\tb σ H Q) (λv=>hU v cap σ) (λH=>dj K H l vs) Q (r.map V.int) (.int b) kV H:=by
 intro r;induction r with
 |nil=>exact λb kV kb F H S x0 h0 hl hk e=>⟨.inl<|S.sub.rd hl,Z4 e▸hfin F H x0⟩
 |cons a r ih =>
  intro b kV kb F H S x0 h0 hl hk e;obtain⟨k,e1,e⟩:=a8 e;refine⟨.inl<|S.sub.rd hl,h0,hb a C F _ H _ k ((S.comp (loc:=[x]) hc).setF 0 (r:=a7) (a:=a) (v:=.int a) rfl) e1 λv F' H' x1 rv=>(eB k kb (Rp.mono _ x1.sub rv) (Rp.mono _ (x1.ff.trans x1.sub) hk) ?_)⟩;cases hlt:dZ k kb with
  |true =>rw[hlt,VP rfl]at e;rw[VP rfl];exact ih a v k F' H' (S.grow x1) (x0.trans x1) (x1.hh.kp _ _ trivial h0) (x1.ff.rd hl) rv e
  |false =>rw[hlt,VQ Z3]at e;rw[VQ Z3];exact ih b kV kb F' H' (S.grow x1) (x0.trans x1) (x1.hh.kp _ _ trivial h0) (x1.ff.rd hl) (Rp.mono _ x1.ff hk) e
def ev_minK{g:Zu}(hc:(cap.map (·.2)).Nodup)(h:EV Γ te o (rL a7))(hb:∀a,EV ((uH [x] cap Γ).set 0 (.fr a7 a)) tb (g a) (ga a7 a7)):EV Γ (tMinK K P cap te tb) (o.bind λxs=>BS g xs) a7:=by
 intro C F σ H Q res S e k;obtain⟨ns,e1,e⟩:=a8 e;refine h C F σ H _ ns S e1 λv F1 H1 x1 ⟨p,vs,e3,h1,h2⟩=>?_;have ev:=dE h2;subst ev;cases ns with
 |nil=>cases e
 |cons a r =>unfold BS at e;obtain⟨ka,e2,e⟩:=a8 e;refine⟨p,.int a,r.map V.int,e3,.inl<|x1.sub.rd h1,(S.grow x1).tg,(λH2 c ts h0=>⟨h0,?_⟩)⟩;have x2:=ts.ext (S.grow x1).sub (S.grow x1).nt;have S2:=(S.grow x1).grow x2;refine hb a C F1 _ H2 _ ka ((S2.comp (loc:=[x]) hc).setF 0 (r:=a7) (a:=a) (v:=.int a) rfl) e2 λv F' H' x3 rv=>?_;exact min_ev hc hb (λF H x4=>k _ F H x4 rfl) r a v ka F' H' (S2.grow x3) ((x1.trans x2).trans x3) (x3.hh.kp _ _ trivial h0) (x3.ff.rd h1) rv e
end
end
section
open PySem PySem.Spec PyProof.Rows
abbrev rP:Rp (Option Int×Option Int):=ga (b8 a7)<|b8 a7
abbrev rF:Rp (List<|List Int):=rL<|rL a7
abbrev c6:=List<|Int×(Option Int×Option Int)
def tY(CM:Wy):Rp (List (List Int)×Wy):=⟨λH v x=>∃m dm vf,v=.ref m/\H m=Wb (.ins CM dm [("floor",vf),("ended",.ref x.2)])/\rF.rel H vf x.1,
 λe ⟨m,dm,vf,h1,h2,h3⟩=>⟨m,dm,vf,h1,e _ _ h2,rF.mono e h3⟩⟩
def rM(CM:Wy):Rp (List (List Int)×c6):=⟨λH v x=>∃p ws,(tY CM).rel H v (x.1,p)/\H p=Wb (.dK ws)/\Paired (cN rP H) ws x.2,
 λe ⟨p,ws,h1,h2,h3⟩=>(eB p ws ((tY CM).mono e h1) (e _ _ h2)<|Paired.imp2 (λa a q=>⟨q.1,rP.mono e q.2⟩) h3)⟩
def qq(CM CW:Wy):Rp (List (List Int)×Int×Wy×Wy):=⟨λH v x=>∃w dw vf m,v=.ref w/\H w=Wb (.ins CW dw [("floor",vf),("reach",.int x.2.1),("homes",.ref x.2.2.1),("meetings",.ref m)])/\rF.rel H vf x.1/\(tY CM).rel H (.ref m) (x.1,x.2.2.2),
 λe ⟨w,dw,vf,m,h1,h2,h3,h4⟩=>⟨w,dw,vf,m,h1,e _ _ h2,rF.mono e h3,(tY CM).mono e h4⟩⟩
def rW(CM CW:Wy):Rp (List (List Int)×Int×List (Option Int)×c6):=⟨λH v x=>∃h p vs ws,(qq CM CW).rel H v (x.1,x.2.1,h,p)/\H h=Wb (.lst vs)/\Paired ((b8 a7).rel H) vs x.2.2.1/\H p=Wb (.dK ws)/\Paired (cN rP H) ws x.2.2.2,
 λe ⟨h,p,vs,ws,h1,h2,h3,h4,h5⟩=>⟨h,p,vs,ws,(qq CM CW).mono e h1,e _ _ h2,(Paired.imp2 (λa a q=>(b8 a7).mono e q) h3),e _ _ h4,(Paired.imp2 (λa a q=>⟨q.1,rP.mono e q.2⟩) h5)⟩⟩
structure MK(K:Z1)(CM:Wy):Prop where
 c:Cls K CM
 floor:cy K CM "floor"
 ended:cy K CM "ended"
structure WK(K:Z1)(CW:Wy):Prop where
 c:Cls K CW
 floor:cy K CW "floor"
 reach:cy K CW "reach"
 homes:cy K CW "homes"
 meetings:cy K CW "meetings"
variable [Kn:Kon]
section
variable {Γ:List Slot}{ta:TE}{K:Z1}{CM CW:Wy}
def eT{α γ:Type}{r:Rp α}{s:Rp γ}{o:Option α}{g:α->γ}(h:EV Γ ta o r)(hf:∀H v x,r.rel H v x->∃a C dx fs u,v=.ref a/\H a=Wb (.ins C dx fs)/\Cls K C/\cy K C f/\fs.lookup f=Wb u/\s.rel H u (g x)):EV Γ (gD K ta f) (o.bind λx=>Wb<|g x) s:=by intro C F σ H Q c S e k;obtain⟨x,e1,e⟩:=a8 e;cases e;refine h C F σ H _ x S e1 λv F' H' x1 r1=>?_;obtain⟨a,C',dx,fs,u,h1,h2,h3,h4,h5,h6⟩:=hf F' v x r1;exact⟨a,C',dx,fs,u,h1,x1.sub _ _ h2,h3,h4,h5,k u F' H' x1 h6⟩
def xg(k:MK K CM)(h:EV Γ ta o (tY CM)):EV Γ (gD K ta "floor") (o.bind λx=>Wb x.1) rF:=eT h λH v x ⟨m,dm,vf,h1,h2,h3⟩=>⟨m,CM,dm,_,vf,h1,h2,k.c,k.floor,rfl,h3⟩
def mS(k:MK K CM)(h:EV Γ ta o (rM CM)):EV Γ (gD K ta "ended") (o.bind λx=>Wb x.2) (rD rP):=eT h λH v x ⟨p,ws,⟨m,dm,vf,h1,h2,h3⟩,h4,h5⟩=>⟨m,CM,dm,_,.ref p,h1,h2,k.c,k.ended,by rfl,p,ws,rfl,h4,h5⟩
def zR(k:WK K CW)(h:EV Γ ta o (rW CM CW)):EV Γ (gD K ta "floor") (o.bind λx=>Wb x.1) rF:=eT h λH v x ⟨_,_,_,_,⟨m,dm,vf,mm,h1,h2,h3,_⟩,_⟩=>⟨m,CW,dm,_,vf,h1,h2,k.c,k.floor,rfl,h3⟩
def zS(k:WK K CW)(h:EV Γ ta o (rW CM CW)):EV Γ (gD K ta "reach") (o.bind λx=>Wb x.2.1) a7:=eT h λH v x ⟨_,_,_,_,⟨m,dm,vf,mm,h1,h2,h3,_⟩,_⟩=>⟨m,CW,dm,_,.int x.2.1,h1,h2,k.c,k.reach,by rfl,rfl⟩
def jT(k:WK K CW)(h:EV Γ ta o (rW CM CW)):EV Γ (gD K ta "homes") (o.bind λx=>Wb x.2.2.1) (rL<|b8 a7) :=
 eT h λH v x ⟨hh,p,vs,ws,⟨m,dm,vf,mm,h1,h2,h3,_⟩,h4,h5,_⟩=>⟨m,CW,dm,_,.ref hh,h1,h2,k.c,k.homes,by rfl,hh,vs,rfl,.inl h4,h5⟩
def uQ(k:WK K CW)(h:EV Γ ta o (rW CM CW)):EV Γ (gD K ta "meetings") (o.bind λx=>Wb (x.1,x.2.2.2)) (rM CM) :=
 eT h λH v x ⟨hh,p,vs,ws,⟨m,dm,vf,mm,h1,h2,h3,h6⟩,h4,h5,h7,h8⟩=>⟨m,CW,dm,_,.ref mm,h1,h2,k.c,k.meetings,by rfl,p,ws,h6,h7,h8⟩
def Ob{α:Type}(r:Rp α)(C:Wy)(m:Str):Prop:=∀H v x,r.rel H v x->∃a dx fs,v=.ref a/\H a=Wb (.ins C dx fs)/\fs.lookup m=Wc
def ob_m{m:Str}(h1:autoParam (("floor"==m)=We) gR._auto_1)(h2:autoParam ((m=="floor")=We) gR._auto_1)(h3:autoParam ((m=="ended")=We) gR._auto_1):Ob (rM CM) CM m:=λH v x ⟨p,ws,⟨a,dm,vf,e1,e2,e3⟩,_⟩=>⟨a,dm,_,e1,e2,by simp[O8,h2,h3]⟩
def ob_w{m:Str}(h2:autoParam ((m=="floor")=We) gR._auto_1)(h3:autoParam ((m=="reach")=We) gR._auto_1)(h4:autoParam ((m=="homes")=We) gR._auto_1)(h5:autoParam ((m=="meetings")=We) gR._auto_1):Ob (rW CM CW) CW m:=λH v x ⟨_,_,_,_,⟨a,dm,vf,_,e1,e2,e3⟩,_⟩=>⟨a,dm,_,e1,e2,by simp[O8,h2,h3,h4,h5]⟩
def ob_w0{m:Str}(h2:autoParam ((m=="floor")=We) gR._auto_1)(h3:autoParam ((m=="reach")=We) gR._auto_1)(h4:autoParam ((m=="homes")=We) gR._auto_1)(h5:autoParam ((m=="meetings")=We) gR._auto_1):Ob (qq CM CW) CW m:=λH v x ⟨a,dm,vf,_,e1,e2,e3⟩=>⟨a,dm,_,e1,e2,(by simp[O8,h2,h3,h4,h5])⟩
section
variable {α γ τ:Type}{r:Rp α}{q:Rp γ}{ra:RpA τ}{t:TA}{C:Wy}{m:Str}{o:Option α}{oτ:Option τ}
def j2{f:α×τ->Option γ}(ob:Ob r C m)(h:EV Γ ta o r)(ha:EA Γ t oτ ra):EV Γ (fF C m (nD (ay r ra) q f) [] E0 ta t) (o.bind λx=>oτ.bind λa=>f (x,a)) q:=by intro C F σ H Q c S e k;obtain⟨x,e1,e⟩:=a8 e;obtain⟨a,e2,e⟩:=a8 e;refine h C F σ H _ x S e1 λv F' H' x1 r1=>?_;obtain⟨ad,dx,fs,h1,h2,h3⟩:=ob F' v x r1;refine⟨ad,dx,fs,h1,x1.sub _ _ h2,h3,(ha C F' σ H' _ a (S.grow x1) e2 λvs F2 H2 x2 r2=>⟨F2,(x,a),c,x2.sub,x2.nt<|x1.nt S.nt,x2.hh.tg<|x1.hh.tg S.tg,⟨v,vs,by rw[V2],r.mono x2.ff r1,r2⟩,e,λw F3 H3 x3 r3=>k w F3 H3 ((x1.trans x2).trans x3) r3⟩)⟩
def uR{f:α×τ->Option (List γ)}(ob:Ob r C m)(h:EV Γ ta o r)(ha:EA Γ t oτ ra):iR Γ (fF C m (pf (ay r ra) q f) [] E0 ta t) (o.bind λx=>oτ.bind λa=>f (x,a)) q:=by intro C F σ H Q c S e k;obtain⟨x,e1,e⟩:=a8 e;obtain⟨a,e2,e⟩:=a8 e;refine h C F σ H _ x S e1 λv F' H' x1 r1=>?_;obtain⟨ad,dx,fs,h1,h2,h3⟩:=ob F' v x r1;refine⟨ad,dx,fs,h1,x1.sub _ _ h2,h3,(ha C F' σ H' _ a (S.grow x1) e2 λvs F2 H2 x2 r2=>⟨F2,(x,a),c,x2.sub,x2.nt<|x1.nt S.nt,x2.hh.tg<|x1.hh.tg S.tg,⟨v,vs,by rw[V2],r.mono x2.ff r1,r2⟩,e,λp ws F3 H3 x3 hp r3=>k p ws F3 H3 ((x1.trans x2).trans x3) hp r3⟩)⟩
end
def uS{α:Type}{r:Rp α}{o:Option (List<|Int×α)}{oa:Option α}(h:EV Γ ta o (rD r))(hi:EV Γ tb oi a7)(hx:EV Γ tc oa r):EV Γ (B5 ta tb tc) (o.bind λd=>oi.bind λk=>oa.bind λx=>Wb<|(find d k).getD x) r:=by
 intro C F σ H Q c S e k;obtain⟨d,e1,e⟩:=a8 e;obtain⟨i,e2,e⟩:=a8 e;obtain⟨x,e3,e⟩:=a8 e;cases e;refine h C F σ H _ d S e1 λv F' H' x1 ⟨p,ws,e4,h1,h2⟩=>(eD p e4 (.inl ⟨ws,.inl<|x1.sub _ _ h1⟩) (hi C F' σ H' _ i (S.grow x1) e2 λy F2 H2 x2 r2=>hx C F2 σ H2 _ x ((S.grow x1).grow x2) e3 λz F3 H3 x3 r3=>?_));have h1':H3 p=Wb (.dK ws):=x3.sub _ _<|(x2.ff.trans x3.ff) _ _ h1;have h2':Paired (cN r F3) ws d:=Paired.imp2 (λa a q=>⟨q.1,r.mono (x2.ff.trans x3.ff) q.2⟩) h2;refine(aD (iT ws<|.inl i) (.inl<|eB ws (.inl i) (.inl h1') r2 rfl)<|k _ F3 H3 ((x1.trans x2).trans x3) ?_);obtain⟨g1,g2⟩:=il (k:=i) h2';cases q:find d i with
 |none=>rw[g2 q];exact r3
 |some w=>obtain⟨v,h3,h4⟩:=g1 w q;rw[h3];exact h4
def uT{α β γ:Type}{r:Rp α}{s:Rp β}{q:Rp γ}{o:Option α}{o':Option (β×γ)}(h:EV Γ ta o (rT1 r))(h':EV Γ tb o' (ga s q)):EV Γ (iQ (xV K) ta tb) (o.bind λa=>o'.bind λb=>Wb (a,b.1,b.2)) (qp r s q):=by intro C F σ H Q c S e k;obtain⟨a,e1,e⟩:=a8 e;obtain⟨b,e2,e⟩:=a8 e;cases e;refine EV.two (q:=λx y H2=>xV K x y H2 Q) h h' S e1 e2 λx y F' H' x1 zq zp=>k7 zq λp u e3 h1 h2=>rX zp λp' v w e4 h3 h4 h5=>⟨p,p',[u],[v,w],e3,e4,l9.of<|x1.sub _ _ h1,l9.of<|x1.sub _ _ h3,by simp,by rw[V0];simp,(λz=>nomatch z),λi q9 hq=>?_⟩;have x2:=Ext.new (o:=.tup [u,v,w]) x1.sub hq;exact k _ _ _ (x1.trans x2) ⟨q9,u,v,w,rfl,ae,Rp.mono _ x2.ff h2,Rp.mono _ x2.ff h4,Rp.mono _ x2.ff h5⟩
end
end
section
open PySem PySem.Spec PyProof.Rows
variable [Kn:Kon]
def set_same{σ:St}(h:σ[i]?=Wb v):σ.set i v=σ:=yh h
section
variable {X:Cx}{ZY:ZN}{σ:St}{H:Hp}{s:Ww}
def Inv.ghost(I:Inv X ZY σ H s)(hx:X.N[g]?=Wb x)(nv:¬ Vis X.env.scope x):Inv X ZY (σ.set g<|some v) H s :=
 ⟨I.ok,I.os,I.bare,I.base,bN I.loc λm hn hl=>(aD m hn (λi y u e1 e2 e3=>by
  by_cases e:g=i
  ·subst e;rw[hx]at e1;cases e1;exact VR e3 nv
  ·rw[K4,VQ e]at e2;exact hl i y u e1 e2 e3)),I.cell,I.free,I.freeC,I.pin,I.hok,by rw[T1];exact I.len⟩
def fS(h:nQ X ss t)(hx:X.N[g]?=Wb x)(nv:¬ Vis X.env.scope x):nQ X ss λD σ H=>∃v,t D (σ.set g<|some v) H :=
 λZY s σ H D I ⟨v,q⟩=>h ZY s _ H D (I.ghost hx nv) q
end
def fJ(sc:WY)(x:Str):Bool:=match sc.names.lookup x with
 |some .local=>We
 |some .cell=>We
 |some .free=>We
 |_=>Wd
def hV(h:fJ sc x=Wd):¬ Vis sc x:=by unfold fJ at h;rintro(z|z|z)<;>rw[z]at h<;>cases h
section
variable {C:Fc}{F H:Hp}{Γ:List Slot}{σ:St}
def SR.less(S:SR C F Γ σ H)(no:∀(j:Nat) t,Γ[j]?=Wb t->t.own=We)(hp:C.H0 p=Wb u)(ou:Own u):SR {C with H0:=del C.H0 p} F Γ σ H:=by
 have own:∀{i:Nat} {s:Slot},Γ[i]?=Wb s->s.own=Wd->False:=λh1 o1=>nomatch (no _ _ h1).symm.trans o1;refine⟨⟨⟨λb o n q=>S.keep.kp b o n (b7 q).2,λb ps q=>S.keep.tb b ps (b7 q).2,λx=>S.tg⟩,S.low,S.sub,λb o h=>(S.base b o h).imp id λz=>?_,S.nt,S.tg⟩,S.len,λi s h=>bN (S.at_ i s h) λo h1 h2=>aD o h1 ?_,λi j s t q h1 h2 o1 o2 x x=>(own h1 o1).elim⟩
 ·show zC (del C.H0 p b);unfold del;split
  ·trivial
  ·exact z
 ·cases s with
  |any=>trivial
  |fr r a=>exact h2
  |ol r φ xs=>exact(own h rfl).elim
  |od r φ kvs=>exact(own h rfl).elim
def SR.setG(g:Nat)(S:SR C F Γ σ H)(hs:s.own=Wd)(h:fR C.H0 F H s (Wb<|.ref p))(np:∀(j:Nat) t,Γ[j]?=Wb t->t.own=Wd->σ[j]?≠Wb (Wb<|.ref p)):SR C F (Γ.set g s) (σ.set g<|some<|.ref p) H:=S.pt g S.toFr (λj t x q=>S.at_ j t q) h λx p' z j t x q o e=>np j t q o<|e.trans<|congrArg Wb z.symm
def Fr.off(fr:Fr ⟨Hx,F,F⟩ F' H')(e:Hx q=Wb o)(f:F q=Wc)(ou:Own o):F' q=Wc:=none_of λw z=>(fr.base q w z).elim (λy=>nomatch f.symm.trans y) λy=>Bp y e ou
def Fr.via(S:Fr C F H)(fr:Fr ⟨Hx,F,F⟩ F' H')(d:∀b o,C.H0 b=Wb o->Hx b=H b):Fr C F' H':=by
 refine⟨⟨λb o n q=>fr.keep.kp b o n<|(d b o q).trans (S.keep.kp b o n q),λb ps q=>k0 (S.keep.tb b ps q) λm1 e1=>k0 (fr.keep.tb b _<|(d b _ q).trans e1) λm2 e2=>⟨m1++m2,e2.trans (by rw[Array.append_assoc])⟩,λx=>fr.tg⟩,S.low.trans fr.low,fr.sub,λb o q=>(fr.base b o q).elim (S.base b o) λz=>.inr ?_,fr.nt,fr.tg⟩;cases e:C.H0 b with
 |none=>trivial
 |some o=>exact e▸S.keep.un (d b o e▸z)
def SR.mut{u u':HO}(S:SR C F Γ σ H)(hg:Γ[g]?=Wb s)(hs:s.own=Wd)(hp:σ[g]?=Wb (Wb<|.ref p))(h0:C.H0 p=Wc)(hu:H p=Wb u)(fr:Fr ⟨del H p,F,F⟩ F' H')(hs':s'.own=Wd)(h:fR C.H0 F' H' s' (Wb<|.ref p)):
  SR C F' (Γ.set g s') σ H' :=
 S.pk hg (λx=>hs) hp (S.toFr.via fr λb o e=>b0<|ag e h0) (λj t n q=>S.mvAt q fr.low λp' x o e f hu ou=>have e:=(b0<|S.oth hg hs hp n q o e).trans hu
  ⟨fr.off e f ou,fr.keep.kp p' _ ou.noTbl e⟩) h
end
section
variable {Γ:List Slot}{C:Fc}{F H:Hp}{σ:St}{CM CW p hh:Wy}{i g g1 g2:Nat}{ZZ:ZX}{Wf:Int}{Wg:c6}{Wh:ZC}
def SR.borM(S:SR C F Γ σ H)(hi:Γ[i]?=Wb (.fr (tY CM) (ZZ,p)))(hg:Γ[g]?=Wb (.od rP (λb=>b=p) Wg)):∃ws,F p=Wc/\H p=Wb (.dK ws)/\SR C (aB F p<|.dK ws) ((Γ.set g .any).set i (.fr (rM CM) (ZZ,Wg))) σ H:=by refine cz (S.at_ g _ hg) λp' ws h1 ZS h3 h4 h5 h6=>?_;subst ZS;obtain⟨v,q1,q2⟩:=S.fr hi;refine(eD ws h4 h5 ?_);have S1:=S.freeze hg p' _ .any rfl rfl h1 h3 h4 h5 trivial trivial;have S2:=S1.setF (r:=rM CM) (a:=(ZZ,Wg)) (v:=v) i ⟨p',ws,(tY CM).mono (aE h4) q2,ae,Paired.imp2 (λx x z=>⟨z.1,rP.mono (aE h4) z.2⟩) h6⟩;rw[set_same q1]at S2;exact S2
def SR.borW(S:SR C F Γ σ H)(hi:Γ[i]?=Wb (.fr (qq CM CW) (ZZ,Wf,hh,p)))(hg1:Γ[g1]?=Wb (.ol (b8 a7) (λb=>b=hh) Wh))(hg2:Γ[g2]?=Wb (.od rP (λb=>b=p) Wg))(Wr:g1≠g2):
  ∃vs ws,F hh=Wc/\H hh=Wb (.lst vs)/\F p=Wc/\H p=Wb (.dK ws)/\p≠hh/\SR C (aB (aB F hh<|.lst vs) p<|.dK ws) (((Γ.set g1 .any).set g2 .any).set i (.fr (rW CM CW) (ZZ,Wf,Wh,Wg))) σ H:=by
 refine cz (S.at_ g1 _ hg1) λp1 vs h1 ZS h3 h4 h5 h6=>?_;subst ZS;obtain⟨v,q1,q2⟩:=S.fr hi;refine cz (S.at_ g2 _ hg2) λp2 ws k1 ZS k3 k4 k5 k6=>?_;subst ZS;have ne:p2≠p1:=by rintro rfl;rw[h5]at k5;cases k5
 have S1:=S.freeze hg1 p1 _ .any rfl rfl h1 h3 h4 h5 trivial trivial;have hg2':(Γ.set g1 .any)[g2]?=Wb (.od rP (λb=>b=p2) Wg):=by rw[bM Wr];exact hg2
 have F2:aB F p1 (.lst vs) p2=Wc:=by rw[ah ne];exact k4
 have S2:=S1.freeze hg2' p2 _ .any rfl rfl k1 k3 F2 k5 trivial trivial;have e1:aL F (aB F p1<|.lst vs):=aE h4;have e2:aL (aB F p1<|.lst vs) (aB (aB F p1<|.lst vs) p2<|.dK ws):=aE F2;refine⟨vs,ws,h4,h5,k4,k5,ne,?_⟩;have S3:=S2.setF (r:=rW CM CW) (a:=(ZZ,Wf,Wh,Wg)) (v:=v) i ⟨p1,p2,vs,ws,(qq CM CW).mono (e1.trans e2) q2,by rw[ah (V8 ne)];exact ae,Paired.imp2 (λx x z=>(b8 a7).mono (e1.trans e2) z) h6,ae,Paired.imp2 (λx x z=>⟨z.1,rP.mono (e1.trans e2) z.2⟩) k6⟩;rw[set_same q1]at S3;exact S3
end
section
variable {Γ:List Slot}{β:Type}{s:Rp β}{tb:TE}{CM CW p hh:Wy}{ZZ:ZX}{Wf:Int}{Wg:c6}{Wh:ZC}
abbrev brwM(Γ:List Slot)(i g:Nat)(CM:Wy)(ZZ:ZX)(Wg:c6):List Slot:=(Γ.set g .any).set i (.fr (rM CM) (ZZ,Wg))
abbrev brwW(Γ:List Slot)(i g1 g2:Nat)(CM CW:Wy)(ZZ:ZX)(Wf:Int)(Wh:ZC)(Wg:c6):List Slot:=((Γ.set g1 .any).set g2 .any).set i (.fr (rW CM CW) (ZZ,Wf,Wh,Wg))
def BU(i g:Nat)(hi:Γ[i]?=Wb (.fr (tY CM) (ZZ,p)))(hg:Γ[g]?=Wb (.od rP (λb=>b=p) Wg))(fl:Flat s)(h:iR (brwM Γ i g CM ZZ Wg) tb o s):iR Γ tb o s:=by intro C F σ H Q b S e k;obtain⟨ws,h1,h2,S'⟩:=S.borM hi hg;refine h C _ σ H Q b S' e λv vs F' H' x1 hv r1=>?_;obtain⟨x2,h3⟩:=fq h1 h2 x1;exact k v vs _ H' x2 hv<|Paired.imp2 (λx x z=>fl h3 trivial z) r1
def m7{F H F' H':Hp}{p q:Wy}{u v:HO}(hF:F p=Wc)(hH:H p=Wb u)(hF2:F q=Wc)(hH2:H q=Wb v)(ne:q≠p)(e:Ext (aB (aB F p u) q v) H F' H')(nu:autoParam (fI u) a4q._auto_1)(nv:autoParam (fI v) a4q._auto_1):Ext F H (del (del F' q) p) H'/\F' q=Wb v/\del F' q p=Wb u:=by obtain⟨x1,h1⟩:=fq (F:=aB F p u) (p:=q) (by rw[ah ne];exact hF2) hH2 e nv;obtain⟨x2,h2⟩:=fq hF hH x1 nu;exact(oG x2 h1 h2)
def BW(i g1 g2:Nat)(hi:Γ[i]?=Wb (.fr (qq CM CW) (ZZ,Wf,hh,p)))(hg1:Γ[g1]?=Wb (.ol (b8 a7) (λb=>b=hh) Wh))(hg2:Γ[g2]?=Wb (.od rP (λb=>b=p) Wg))(Wr:g1≠g2)(fl:Flat s)(h:iR (brwW Γ i g1 g2 CM CW ZZ Wf Wh Wg) tb o s):iR Γ tb o s:=by intro C F σ H Q b S e k;obtain⟨vs,ws,h1,h2,h3,h4,ne,S'⟩:=S.borW hi hg1 hg2 Wr;refine h C _ σ H Q b S' e λv us F' H' x1 hv r1=>?_;obtain⟨x2,h5,h6⟩:=m7 h1 h2 h3 h4 ne x1;exact k v us _ H' x2 hv<|Paired.imp2 (λx x z=>fl h6 trivial<|fl h5 trivial z) r1
def own_mE{K:Z1}(k:MK K CM)(i g:Nat)(hi:Γ[i]?=Wb (.fr (tY CM) (ZZ,p)))(hg:Γ[g]?=Wb (.od rP (λb=>b=p) Wg)):jv Γ (gD K (bf i) "ended") g:=λC F σ H Q v S hv q=>by refine cz (S.at_ g _ hg) λp' ws h1 ZS h3 h4 h5 h6=>?_;subst ZS;rw[hv]at h1;cases h1;obtain⟨w,q1,m,dm,vf,rfl,h7,h8⟩:=S.fr hi;exact⟨.ref m,q1,m,CM,dm,_,.ref p',rfl,S.sub _ _ h7,k.c,k.ended,by rfl,q⟩
def own_wH{K:Z1}(k:WK K CW)(i g:Nat)(hi:Γ[i]?=Wb (.fr (qq CM CW) (ZZ,Wf,hh,p)))(hg:Γ[g]?=Wb (.ol (b8 a7) (λb=>b=hh) Wh)):jv Γ (gD K (bf i) "homes") g:=λC F σ H Q v S hv q=>by refine cz (S.at_ g _ hg) λp' ws h1 ZS h3 h4 h5 h6=>?_;subst ZS;rw[hv]at h1;cases h1;obtain⟨w,q1,m,dm,vf,mm,rfl,h7,h8⟩:=S.fr hi;exact⟨.ref m,q1,m,CW,dm,_,.ref p',rfl,S.sub _ _ h7,k.c,k.homes,by rfl,q⟩
end
end
section
open PySem PySem.Spec PyProof.Rows
variable [Kn:Kon]
def bG(K:Z1)(C:Wy)(m qual:Str)(st:WH)(ps:ZL):Prop:=∃f fd,Fun K m qual st f fd/\Binds K fd ps []/\Meth K C m f
def ii(P:W7)(w:WB)(K:Z1)(mg:ZM)(base:WD)(k:Nat)(C:Wy)(m:Str)(ps:ZL)(sp:Sp):Prop :=
 ∃f fd,FnOk P w K mg base sH k f fd ps sp/\Meth K C m f/\Binds K fd ps []
def meth_mk{K:Z1}{st:WH}{kV Wu pm ZP ct:Wx}(a:P0 K (.ref C) m=Wb (Wb<|.ref f))(l:K.lookup f=Wb ⟨oc,od,.func<|T5 m qual (bU st) (bb st) (ao st) .none kV Wu pm an ZP ct,osl⟩)(c:N8 K ZP qual=Wd)(k:P1 K (.ref f)=Wd)(hf:PySem.W.isFn K (.ref f)=Wd)(hb:∀(kV Wu pm:Wx) (an:Zz) (ZP ct:Wx) (us:ZO),us.length=ps.length->E8 (T5 m qual (bU st) (bb st) (ao st) .none kV Wu pm an ZP ct) ⟨us,[]⟩=pure (ps.zip us)):bG K C m qual st ps :=
 ⟨f,_,iV (st:=st) l c k,(iV (st:=st) l c k).binds hb,⟨a,hf,k⟩⟩
section
variable {P:W7}{w:WB}{K:Z1}{mg:ZM}{base:WD}{m qual:Str}{st:WH}{N ps:ZL}{k:Nat}{C:Wy}
def bG.has(D:bG K C m qual st ps)(S:FnScope N ps (ao st))(len:∀vs H Q E,sp vs H Q E->vs.length=ps.length)(Wv:∀(f:Wy) (ZP:Wx) (A:WE) (outer:List Env) (s:Ww) (H:Hp) (vs:List V) (Q:VK) (E:XK),Room k (A.deeper<|VD qual (ao st) s.heap.objs.size f ZP)->sp vs H Q E ->
   ∃t,nQ (lD sH P w K mg base N qual (ao st) f ZP A outer s H E).nox (bb st) t/\t {nx:=λx H'=>Q .non H',rt:=Q} (start N vs) H):ii P w K mg base (k+1) C m ps sp:=by
 obtain⟨f,fd,F,b,hm⟩:=D;exact⟨f,fd,F.ok S len λZP A outer s H vs Q E hr h=>Wv f ZP A outer s H vs Q E hr h,hm,b⟩
def cP{X:Cx}{sp:Sp}{ta:TE}{t:TA}{o e:WC}{es:List WC}{Wq pos:Pos}{pl:Sem Bool}(G:ii X.prog X.w X.K X.mg X.base k C m ps sp)(he:PE X o ta)(c:Cls X.K C)(hr:Room k X.A)(ha:PA X (e ::es) t)(hst:autoParam (X5 (e ::es) X.env=(We,WF e X.env) ::X5 es X.env) cV._auto_1)(hpl:autoParam ((WI pos<|X5 es X.env).any (·.1)=We) cV._auto_1)(ht:WF (.Call (.Attribute o m Wq) (e ::es) [] pos) X.env=(do
   let ov <- WF o X.env
   Vk Wq.atName
   let (f,first) <- WM [ov] (Vu ov m pl)
   callWith pos f first (WI pos<|X5 (e ::es) X.env) (Vv pos<|WW [] X.env)):=by rfl):
  PE X (.Call (.Attribute o m Wq) (e ::es) [] pos) (fF C m sp [] E0 ta t):=by
 obtain⟨f,fd,F,hm,hb⟩:=G;exact pe_meth he c hm F hr hb .nil qX ha hst hpl ht
end
def spM{τ γ:Type}(CM:Wy)(ra:RpA τ)(r:Rp γ)(f:(List (List Int)×c6)×τ->Option (γ×c6)):Sp:=λvs H Q x=>∃F v args ZZ p ws Wg a c,vs=v ::args/\aL F H/\NT F/\TbG H/\(tY CM).rel F v (ZZ,p)/\F p=Wc/\H p=Wb (.dK ws) /\
 Paired (cN rP F) ws Wg/\ra.rel F args a/\f ((ZZ,Wg),a)=Wb c/\∀v' ws' F' H',Fr ⟨del H p,F,F⟩ F' H'->F' p=Wc->H' p=Wb (.dK ws')->Paired (cN rP F') ws' c.2->r.rel F' v' c.1->Q v' H'
def finM{γ:Type}(r:Rp γ)(p:Wy):Fc->γ×c6->Ends->Prop:=λC x D=>∀v ws F' H',Fr C F' H'->F' p=Wc->H' p=Wb (.dK ws)->Paired (cN rP F') ws x.2->r.rel F' v x.1->D.rt v H'
def tu{α:Type _}(l:List α)(a b:α)(n:Nat):(l++U8 (n+1) a).set l.length b=l++b ::U8 n a:=by rw[List.set_append_right _ _ (bW _),Nat.sub_self,List.replicate_succ];rfl
def bv_retM{γ:Type}{r:Rp γ}{oa:Option γ}{Wg:c6}(g:Nat)(hg:Γ[g]?=Wb (.od rP (λb=>b=p) Wg))(he:EV Γ te oa r):BV Γ (lg te) (oa.bind λa=>Wb (a,Wg)) (finM r p):=λC F σ H D x S e k=>by obtain⟨a,e1,e⟩:=a8 e;cases e;refine he C F σ H _ a S e1 λv F' H' x1 r1=>?_;have S':=S.grow x1;refine cz (S'.at_ g _ hg) λp' ws h1 ZS h3 h4 h5 h6=>?_;subst ZS;exact k v ws F' H' S'.toFr h4 h5 h6 r1
section
variable {P:W7}{w:WB}{K:Z1}{mg:ZM}{base:WD}{m qual:Str}{st:WH}{N ps:ZL}{k:Nat}{CM:Wy}{τ γ:Type}{ra:RpA τ}{r:Rp γ}
def bG.pM{f:(List (List Int)×c6)×τ->Option (γ×c6)}(D:bG K CM m qual st ps)(S:FnScope N ps (ao st))(hl:∀a,(ra.slots a).length+1=ps.length)(hn:N.length-ps.length=n+1)(hx:N[ps.length]?=Wb gx)(nv:fJ (ao st) gx=Wd)(h:mN P w K mg base qual st N k λt=>∀ZZ p Wg a,BV ((.fr (tY CM) (ZZ,p) ::ra.slots a)++.od rP (λb=>b=p) Wg ::U8 n .any) t (f ((ZZ,Wg),a)) (finM r p)):ii P w K mg base (k+1) CM m ps (spM CM ra r f):=by
 refine D.has S (λvs H Q E h=>?_) λfa ZP A outer s H vs Q E hr hsp=>?_
 ·obtain⟨F,v,args,ZZ,p,ws,Wg,a,c,rfl,_,_,_,_,_,_,_,h1,_⟩:=h;rw[X2,(ra.ok h1).1,hl]
 ·obtain⟨t,h1,h2⟩:=h fa ZP A outer s H E hr;obtain⟨F,v,args,ZZ,p,ws,Wg,a,c,rfl,sb,nt,tg,hm,hp,hH,hw,har,hf,q⟩:=hsp;refine⟨_,fS (g:=ps.length) h1 hx<|hV nv,.ref p,?_⟩;have gr:(v ::args).length=ps.length:=by rw[X2,(ra.ok har).1,hl]
  have S0:=SR.begin_ (ra:=ay (tY CM) ra) (N:=N) (a:=((ZZ,p),a)) (n:=n+1) sb nt tg ⟨v,args,rfl,hm,har⟩ (by rw[gr];exact hn);have hsl:((ay (tY CM) ra).slots ((ZZ,p),a)).length=ps.length:=by show (ra.slots a).length+1=_;exact hl a
  have no:∀(j:Nat) t,((ay (tY CM) ra).slots ((ZZ,p),a)++U8 (n+1) Slot.any)[j]?=Wb t->t.own=We:=λj t ht=>by
   by_cases hj:j<((ay (tY CM) ra).slots ((ZZ,p),a)).length
   ·rw[W3 hj]at ht;exact((ay (tY CM) ra).ok (F:=F) (vs:=v ::args) ⟨v,args,rfl,hm,har⟩).2 j t ht |>.1
   ·rw[V1 (by exact W5.mp hj)]at ht;have:=X6 ht;rw[G3]at this;rw[this.2];rfl
  have S1:=S0.less (p:=p) no hH trivial;have S2:=S1.setG (p:=p) (s:=.od rP (λb=>b=p) Wg) ps.length rfl ⟨p,ws,rfl,rfl,bR,hp,hH,hw⟩ λj t h1 h2=>by rw[no j t h1]at h2;cases h2
  rw[<- hsl,tu,hsl]at S2;refine h2 ZZ p Wg a _ F _ H _ c S2 hf ?_;exact λv' ws' F' H' fr g1 g2 g3 g4=>q v' ws' F' H' fr g1 g2 g3 g4
end
def EM{α:Type}(Γ:List Slot)(g:Nat)(p:Wy)(t:TE)(o:Option (α×c6))(r:Rp α):Prop:=∀C F σ H Q x,SR C F Γ σ H->o=Wb x->(∀v F' H',SR C F' (Γ.set g<|.od rP (λb=>b=p) x.2) σ H'->r.rel F' v x.1->Q v H')->t σ H Q
section
variable {Γ:List Slot}{α τ:Type}{r:Rp α}{ta tb:TE}{oa:Option α}{CM CW p hh:Wy}{ZZ:ZX}{Wf:Int}{Wg:c6}{g:Nat}{K:Z1}
set_option tactic.hygienic true in
def set_get{α:Type _}{l:List α}{x:α}(h:l[i]?=Wb x):l.set i x=l:=by
 apply N0;intro j;rw[K4];split
 ·rename_i e;split
  ·rw[<- e];exact h.symm
  ·rename_i q;rw[<- e,(List.getElem?_eq_none_iff).mpr (by exact W5.mp q)]
 ·rfl
def em_pure(hg:Γ[g]?=Wb (.od rP (λb=>b=p) Wg))(h:EV Γ ta oa r):EM Γ g p ta (oa.bind λa=>Wb (a,Wg)) r:=λC F σ H Q x S e k=>by obtain⟨a,e1,e⟩:=a8 e;cases e;refine h C F σ H _ a S e1 λv F' H' x1 r1=>k v F' H' ?_ r1;rw[set_get hg];exact S.grow x1
def em_if(hc:ET Γ tt oc)(h1:EM Γ g p ta o r)(h2:EM Γ g p tb o' r):EM Γ g p (tIf tt ta tb) (oc.bind λb=>if b=Wd then o else o') r:=λC F σ H Q x S e k=>by
 obtain⟨b,e1,e⟩:=a8 e;refine hc C F σ H _ b S e1 λF' H' x1=>?_;cases b with
 |true=>exact h1 C F' σ H' Q x (S.grow x1) e k
 |false=>exact h2 C F' σ H' Q x (S.grow x1) e k
def em_meth{m:Str}{ra:RpA τ}{t:TA}{oτ:Option τ}{f:(List (List Int)×c6)×τ->Option (α×c6)}(k:WK K CW)(i:Nat)(hi:Γ[i]?=Wb (.fr (qq CM CW) (ZZ,Wf,hh,p)))(hg:Γ[g]?=Wb (.od rP (λb=>b=p) Wg))(ha:EA Γ t oτ ra)(h2:autoParam ((m=="floor")=We) gR._auto_1)(h3:autoParam ((m=="ended")=We) gR._auto_1):EM Γ g p (fF CM m (spM CM ra r f) [] E0 (gD K (bf i) "meetings") t) (oτ.bind λa=>f ((ZZ,Wg),a)) r:=λC F σ H Q x S e kk=>by obtain⟨a,e1,e⟩:=a8 e;obtain⟨w,q1,ww,dw,vf,mm,rfl,q2,q3,q4⟩:=S.fr hi;obtain⟨m1,dm,vf2,em,q5,q6⟩:=id q4;cases em;refine⟨.ref ww,q1,ww,CW,dw,_,.ref mm,rfl,S.sub _ _ q2,k.c,k.meetings,by rfl,mm,dm,_,rfl,S.sub _ _ q5,by simp[O8,h2,h3],?_⟩;refine ha C F σ H _ a S e1 λvs F' H' x1 r1=>?_;have S':=S.grow x1;refine cz (S'.at_ g _ hg) λp' ws h1 ZS h3 h4 h5 h6=>?_;subst ZS;refine⟨F',.ref mm,vs,ZZ,p',ws,Wg,a,x,by rw[V2],S'.sub,S'.nt,S'.tg,(tY CM).mono x1.ff q4,h4,h5,h6,r1,e,λv' ws' F2 H2 fr g1 g2 g3 g4=>kk v' F2 H2 ?_ g4⟩;exact S'.mut (u':=.dK ws') hg rfl h1 h3 h5 fr rfl ⟨p',ws',rfl,rfl,h3,g1,g2,g3⟩
def zT{T:Type}{fin:Fc->T->Ends->Prop}{φ:ZJ}{f:List α->c6->Option T}(i:Nat)(hgi:g≠i)(ho:∀e,jv (Γ.set g<|.od rP (λb=>b=p) e) to i)(hi:Γ[i]?=Wb (.ol r φ xs))(hk:∀e,EV (Γ.set g<|.od rP (λb=>b=p) e) tk oi a7)(he:EM Γ g p te oe r)(h:∀ys e,BV ((Γ.set g<|.od rP (λb=>b=p) e).set i (.ol r φ ys)) u (f ys e) fin):BV Γ (bC (ie te<|gSub to tk xZ) u) (oe.bind λx=>oi.bind λk=>(k9 xs.length k).bind λj=>f (xs.set j x.1) x.2) fin:=by
 intro C F σ H D x S e k;obtain⟨a,e1,e⟩:=a8 e;obtain⟨n,e2,e⟩:=a8 e;obtain⟨j,e3,e⟩:=a8 e;refine he C F σ H _ a S e1 λv F' H' S1 r1=>?_;have hi':(Γ.set g<|.od rP (λb=>b=p) a.2)[i]?=Wb (.ol r φ xs):=by rw[bM hgi];exact hi
 obtain⟨o,h1,p1,vs1,rfl,_⟩:=S1.at_ i _ hi';refine ho a.2 C F' σ H' _ (.ref p1) S1 h1 (hk a.2 C F' σ H' _ n S1 e2 λw F2 H2 x2 r2=>?_);have S':=S1.grow x2;refine cz (S'.at_ i _ hi') λp' vs' q1 q2 q3 q4 q5 q6=>?_;rw[h1]at q1;cases q1;refine⟨p1,vs',n,j,rfl,r2,q5,by rw[q6.length];exact e3,?_⟩;exact h _ _ C F2 σ _ D x (S'.chg hi' rfl h1 q3 q4 rfl ⟨p1,_,rfl,q2,q3,q4,ae,Paired.setB (r.mono x2.ff r1) j q6⟩) e k
end
abbrev Wa:=List (List Int)×Int×List (Option Int)×c6
def spW{τ:Type}(CM CW:Wy)(ra:RpA τ)(f:Wa×τ->Option (List (Option Int)×c6)):Sp:=λvs H Q x=>∃F v args ZZ Wf hh p hs ws Wh Wg a c,vs=v ::args/\aL F H/\NT F/\TbG H/\(qq CM CW).rel F v (ZZ,Wf,hh,p)/\F hh=Wc/\H hh=Wb (.lst hs)/\Paired ((b8 a7).rel F) hs Wh /\
 F p=Wc/\H p=Wb (.dK ws)/\Paired (cN rP F) ws Wg/\ra.rel F args a/\f ((ZZ,Wf,Wh,Wg),a)=Wb c /\
 ∀hs' ws' F' H',Fr ⟨del (del H hh) p,F,F⟩ F' H'->F' hh=Wc->H' hh=Wb (.lst hs')->Paired ((b8 a7).rel F') hs' c.1->F' p=Wc->H' p=Wb (.dK ws')->Paired (cN rP F') ws' c.2->Q .non H'
def finW(hh p:Wy):Fc->List (Option Int)×c6->Ends->Prop:=λC c D=>∀hs ws F σ H,Fr C F H->F hh=Wc->H hh=Wb (.lst hs)->Paired ((b8 a7).rel F) hs c.1->F p=Wc->H p=Wb (.dK ws)->Paired (cN rP F) ws c.2->D.nx σ H
def bv_endW(g1 g2:Nat)(hg1:Γ[g1]?=Wb (.ol (b8 a7) (λb=>b=hh) Wh))(hg2:Γ[g2]?=Wb (.od rP (λb=>b=p) Wg)):BV Γ la (Wb (Wh,Wg)) (finW hh p):=λC F σ H D x S e k=>by cases e;refine cz (S.at_ g1 _ hg1) λp1 vs h1 ZS h3 h4 h5 h6=>?_;subst ZS;refine cz (S.at_ g2 _ hg2) λp2 ws k1 ZS k3 k4 k5 k6=>?_;subst ZS;exact k vs ws F σ H S.toFr h4 h5 h6 k4 k5 k6
end
section
open PySem PySem.Spec PyProof.Rows
variable [Kn:Kon]
def yz{H:Hp}(h:H a=Wb o)(k:H b=Wb o')(n:o≠o'):a≠b:=λe=>n<|Z4<|h.symm.trans<|e▸k
def yA(g:Nat)(u:TS):TS:=λD σ H=>∃v,u D (σ.set g<|some v) H
def j3(g:Nat)(h:nQ X ss t)(hx:X.N[g]?=Wb x)(nv:fJ X.env.scope x=Wd):nQ X ss (yA g t):=fS h hx<|hV nv
def uU{α:Type _}(l:List α)(a b c:α)(n:Nat):((l++U8 (n+2) a).set l.length b).set (l.length+1) c=l++b ::c ::U8 n a:=by
 rw[tu l a b (n+1),List.set_append_right _ _ (R6 _)];have:l.length+1-l.length=1:=by lia
 rw[this,List.replicate_succ];rfl
section
variable {P:W7}{w:WB}{K:Z1}{mg:ZM}{base:WD}{m qual:Str}{st:WH}{N ps:ZL}{k:Nat}{CM CW:Wy}{τ:Type}{ra:RpA τ}
def bG.pW{f:Wa×τ->Option (List (Option Int)×c6)}(D:bG K CW m qual st ps)(S:FnScope N ps (ao st))(hl:∀a,(ra.slots a).length+1=ps.length)(hn:N.length-ps.length=n+2)(hx:N[ps.length]?=Wb gx)(nvx:fJ (ao st) gx=Wd)(hy:N[ps.length+1]?=Wb gy)(nvy:fJ (ao st) gy=Wd)(h:mN P w K mg base qual st N k λt=>∀ZZ Wf hh p Wh Wg a,BV ((.fr (qq CM CW) (ZZ,Wf,hh,p) ::ra.slots a)++.ol (b8 a7) (λb=>b=hh) Wh :: .od rP (λb=>b=p) Wg ::U8 n .any) t (f ((ZZ,Wf,Wh,Wg),a)) (finW hh p)):ii P w K mg base (k+1) CW m ps (spW CM CW ra f):=by
 refine D.has S (λvs H Q E h=>?_) λfa ZP A outer s H vs Q E hr hsp=>?_
 ·obtain⟨F,v,args,ZZ,Wf,hh,p,hs,ws,Wh,Wg,a,c,rfl,_,_,_,_,_,_,_,_,_,_,h1,_⟩:=h;rw[X2,(ra.ok h1).1,hl]
 ·obtain⟨t,h1,h2⟩:=h fa ZP A outer s H E hr;obtain⟨F,v,args,ZZ,Wf,hh,p,hs,ws,Wh,Wg,a,c,rfl,sb,nt,tg,hm,hF1,hH1,hw1,hp,hH,hw,har,hf,q⟩:=hsp;refine⟨_,fS (g:=ps.length) (fS (g:=ps.length+1) h1 hy<|hV nvy) hx<|hV nvx,.ref hh,.ref p,?_⟩;have ne:p≠hh:=yz hH hH1 nofun;have gr:(v ::args).length=ps.length:=by rw[X2,(ra.ok har).1,hl]
  have S0:=SR.begin_ (ra:=ay (qq CM CW) ra) (N:=N) (a:=((ZZ,Wf,hh,p),a)) (n:=n+2) sb nt tg ⟨v,args,rfl,hm,har⟩ (by rw[gr];exact hn);have hsl:((ay (qq CM CW) ra).slots ((ZZ,Wf,hh,p),a)).length=ps.length:=by show (ra.slots a).length+1=_;exact hl a
  have no:∀(j:Nat) t,((ay (qq CM CW) ra).slots ((ZZ,Wf,hh,p),a)++U8 (n+2) Slot.any)[j]?=Wb t->t.own=We:=λj t ht=>by
   by_cases hj:j<((ay (qq CM CW) ra).slots ((ZZ,Wf,hh,p),a)).length
   ·rw[W3 hj]at ht;exact((ay (qq CM CW) ra).ok (F:=F) (vs:=v ::args) ⟨v,args,rfl,hm,har⟩).2 j t ht |>.1
   ·rw[V1 (by exact W5.mp hj)]at ht;have:=X6 ht;rw[G3]at this;rw[this.2];rfl
  have S1:=S0.less (p:=hh) no hH1 trivial;have S1':=S1.less (p:=p) no (show del H hh p=Wb (.dK ws) by rw[b0 ne];exact hH) trivial;have S2:=S1'.setG (p:=hh) (s:=.ol (b8 a7) (λb=>b=hh) Wh) ps.length rfl ⟨hh,hs,rfl,rfl,by show del (del H hh) p hh=Wc;rw[b0 (V8 ne)];exact bR,hF1,hH1,hw1⟩ λj t h1 h2=>nomatch (no j t h1).symm.trans h2;have S3:=S2.setG (p:=p) (s:=.od rP (λb=>b=p) Wg) (ps.length+1) rfl ⟨p,ws,rfl,rfl,bR,hp,hH,hw⟩ λj t h1 h2 h3=>h9 h1 (λa x l=>ne (V.ref.inj<|Z4<|lK a (Nat.lt_of_lt_of_eq l S1'.len.symm) h3).symm) λx h1=>nomatch (no j t h1).symm.trans h2;rw[<- hsl,uU,hsl]at S3;refine h2 ZZ Wf hh p Wh Wg a _ F _ H _ c S3 hf ?_;exact λhs' ws' F' x H' fr g1 g2 g3 g4 g5 g6=>q hs' ws' F' H' fr g1 g2 g3 g4 g5 g6
end
def SR.mut2(S:SR C F Γ σ H)(Wr:g1≠g2)(hg1:Γ[g1]?=Wb s1)(hs1:s1.own=Wd)(hp1:σ[g1]?=Wb (Wb<|.ref hh))(h01:C.H0 hh=Wc)(hu:H hh=Wb u)(hg2:Γ[g2]?=Wb s2)(hs2:s2.own=Wd)(hp2:σ[g2]?=Wb (Wb<|.ref p))(h02:C.H0 p=Wc)(hv:H p=Wb v)(fr:Fr ⟨del (del H hh) p,F,F⟩ F' H')(ht1:t1.own=Wd)(h1:fR C.H0 F' H' t1 (Wb<|.ref hh))(ht2:t2.own=Wd)(h2:fR C.H0 F' H' t2 (Wb<|.ref p)):
  SR C F' ((Γ.set g1 t1).set g2 t2) σ H':=by
 have ow:∀(j:Nat) x,((Γ.set g1 t1).set g2 t2)[j]?=Wb x->x.own=Wd->∃y,Γ[j]?=Wb y/\y.own=Wd:=λj x q o=>h9 q (λe h h=>⟨s2,e▸hg2,hs2⟩) λh q=>h9 q (λe h h=>⟨s1,e▸hg1,hs1⟩) λh q=>⟨x,q,o⟩;refine⟨S.toFr.via fr λb o e=>(b0<|ag e h02).trans (b0<|ag e h01),by rw[T1,T1];exact S.len,λj t q=>h9 q (λa b h=>aD _ (a▸hp2)<|b▸h2) λn2 q=>h9 q (λa b h=>aD _ (a▸hp1)<|b▸h1) λn1 q=>S.mvAt q fr.low λp' h o e f hu ou=>?_,λj k a b p' q1 q2 o1 o2 e1 e2=>(ow j a q1 o1).elim λa' r=>(ow k b q2 o2).elim λb' r'=>S.inj j k a' b' p' r.1 r'.1 r.2 r'.2 e1 e2⟩;have e:=(b0<|S.oth hg2 hs2 hp2 n2 q o e).trans ((b0<|S.oth hg1 hs1 hp1 n1 q o e).trans hu);exact⟨fr.off e f ou,fr.keep.kp p' _ ou.noTbl e⟩
section
variable {Γ:List Slot}{T τ:Type}{CM CW hh p:Wy}{ZZ:ZX}{Wf:Int}{Wh:ZC}{Wg:c6}{u:TS}{fin:Fc->T->Ends->Prop}
def bv_come{f:Wa×τ->Option (List (Option Int)×c6)}{gg:List (Option Int)->c6->Option T}(i g1 g2:Nat)(Wr:g1≠g2)(hi:Γ[i]?=Wb (.fr (qq CM CW) (ZZ,Wf,hh,p)))(hg1:Γ[g1]?=Wb (.ol (b8 a7) (λb=>b=hh) Wh))(hg2:Γ[g2]?=Wb (.od rP (λb=>b=p) Wg))(ha:EA Γ t oτ ra)(h:∀hs es,BV ((Γ.set g1<|.ol (b8 a7) (λb=>b=hh) hs).set g2 (.od rP (λb=>b=p) es)) u (gg hs es) fin)(ob:Ob (qq CM CW) CW m):BV Γ (bC (nk<|fF CW m (spW CM CW ra f) [] E0 (bf i) t) u) (oτ.bind λa=>(f ((ZZ,Wf,Wh,Wg),a)).bind λc=>gg c.1 c.2) fin:=by intro C F σ H D x S e k;obtain⟨a,e1,e⟩:=a8 e;obtain⟨c,e2,e⟩:=a8 e;obtain⟨w,q1,q2⟩:=S.fr hi;obtain⟨ad,dx,fs,z1,z2,z3⟩:=ob F w _ q2;refine⟨w,q1,ad,dx,fs,z1,S.sub _ _ z2,z3,ha C F σ H _ a S e1 λvs F' H' x1 r1=>?_⟩;have S':=S.grow x1;refine cz (S'.at_ g1 _ hg1) λp1 hs h1 ZS h3 h4 h5 h6=>?_;subst ZS;refine cz (S'.at_ g2 _ hg2) λp2 ws k1 ZS k3 k4 k5 k6=>?_;subst ZS;refine⟨F',w,vs,ZZ,Wf,p1,p2,⟨hs,ws,Wh,Wg,a,c,(by rw[V2]),S'.sub,S'.nt,S'.tg,(qq CM CW).mono x1.ff q2,h4,h5,h6,k4,k5,k6,r1,⟨e2,λhs' ws' F2 H2 fr m1 m2 m3 m4 m5 m6=>?_⟩⟩⟩;exact h c.1 c.2 C F2 σ H2 D x (S'.mut2 (u:=.lst hs) (v:=.dK ws) Wr hg1 rfl h1 h3 h5 hg2 rfl k1 k3 k5 fr rfl ⟨p1,hs',rfl,rfl,h3,m1,m2,m3⟩ rfl ⟨p2,ws',rfl,rfl,k3,m4,m5,m6⟩) e k
def bv_retW(i g1 g2:Nat)(Wr:g1≠g2)(hi:Γ[i]?=Wb (.fr (qq CM CW) (ZZ,Wf,hh,p)))(hg1:Γ[g1]?=Wb (.ol (b8 a7) (λb=>b=hh) Wh))(hg2:Γ[g2]?=Wb (.od rP (λb=>b=p) Wg))(hi2:i≠g1/\i≠g2/\i<Γ.length):BV Γ (lg<|bf i) (Wb (ZZ,Wf,Wh,Wg)) (nT<|rW CM CW):=λC F σ H D x S e k=>by cases e;obtain⟨vs,ws,_,_,_,_,_,S'⟩:=S.borW hi hg1 hg2 Wr;have hi':(((Γ.set g1 .any).set g2 .any).set i (.fr (rW CM CW) (ZZ,Wf,Wh,Wg)))[i]?=Wb (.fr (rW CM CW) (ZZ,Wf,Wh,Wg)):=jr (by rw[T1,T1];exact hi2.2.2);obtain⟨v,q1,q2⟩:=S'.fr hi';exact⟨v,q1,k v _ H S'.toFr q2⟩
end
def spIM(CM:Wy):Sp:=λvs H Q a=>∃x dx vf,vs=[.ref x,vf]/\H x=Wb (.ins CM dx [])/\∀p,H p=Wc->Q .non (aB (aB (aB H x<|.ins CM dx [("floor",vf)]) p<|.dK []) x<|.ins CM dx [("floor",vf),("ended",.ref p)])
def init_M{K:Z1}(k:MK K CM)(hN:N.length=2)(h:spIM CM vs H Q E):(bC (lA K (bf 0) (bf 1) "floor")<|lA K (bf 0) oY "ended") {nx:=λa H'=>Q .non H',rt:=Q} (start N vs) H:=by
 obtain⟨x,dx,vf,rfl,hx,q⟩:=h;have es:start N [.ref x,vf]=[Wb (.ref x),Wb vf]:=by unfold start;simp[hN]
 rw[es];refine⟨vf,rfl,.ref x,rfl,x,CM,dx,[],rfl,hx,k.c,k.floor,by simp,?_⟩;intro p hp;have np:p≠x:=by rintro rfl;rw[ae]at hp;cases hp
 rw[ah np]at hp;refine⟨.ref x,rfl,x,CM,dx,[("floor",vf)],rfl,by rw[ah (V8 np),ae];rfl,k.c,k.ended,by simp,?_⟩;exact q p hp
end
section
open PySem PySem.Spec PyProof.Rows
variable [Kn:Kon]
def spIW(CM CW:Wy)(f:List (List Int)->Option (List<|Option Int)):Sp:=λvs H Q a=>∃F x dx vf ZZ Wf Wh,vs=[.ref x,vf,.int Wf]/\aL F H/\NT F/\TbG H/\F x=Wc/\H x=Wb (.ins CW dx [])/\rF.rel F vf ZZ/\f ZZ=Wb Wh /\
 ∀h hs m dm p F' H',Fr ⟨del H x,F,F⟩ F' H'->(F' x=Wc/\F' h=Wc/\F' m=Wc/\F' p=Wc)->(H h=Wc/\H m=Wc/\H p=Wc)->H' x=Wb (.ins CW dx [("floor",vf),("reach",.int Wf),("homes",.ref h),("meetings",.ref m)])->H' h=Wb (.lst hs) ->
  Paired ((b8 a7).rel F') hs Wh->H' m=Wb (.ins CM dm [("floor",vf),("ended",.ref p)])->H' p=Wb (.dK [])->Q .non H'
def TbG.pokI(g:TbG H)(n:fI o)(h:H p=Wb (.ins C d fs)):TbG (aB H p o):=g.poke n (λx z=>nomatch h.symm.trans z) λx z=>nomatch h.symm.trans z
def rC{K:Z1}(e:σ[0]?=Wb (Wb<|.ref x))(hx:H x=Wb (.ins C dx fs))(c:Cls K C)(n:cy K C f)(l:fs.length<1000)(k:D.nx σ (aB H x<|.ins C dx<|dN f y fs)):lA K (bf 0) (λa H Q=>Q y H) f D σ H:=⟨.ref x,e,x,C,dx,fs,rfl,hx,c,n,l,k⟩
def Ext.offI(x:Ext F H F' H')(f:F b=Wc)(h:H b=Wb (.ins C d fs)):F' b=Wc:=none_of λw z=>(x.nw b w z).elim (λy=>nomatch f.symm.trans y) λy=>by rw[h]at y;exact y
def jU{σ:St}(h:fR H0 F H s0 o0)(t:∀(i:Nat) s,Γ[i]?=Wb s->∃o,σ[i]?=Wb o/\fR H0 F H s o):∀(i:Nat) s,(s0 ::Γ)[i]?=Wb s->∃o,(o0 ::σ)[i]?=Wb o/\fR H0 F H s o:=λi s e=>by
 cases i with
 |zero=>cases e;exact⟨_,rfl,h⟩
 |succ i=>exact t i s e
def BX{Γ:List Slot}(h:Γ.all (λs=>!s.own)=Wd){i:Nat}(e:Γ[i]?=Wb s)(o:s.own=Wd):False:=by have z:=List.all_eq_true.mp h s<|X6 e;rw[o]at z;cases z
def init_W{K:Z1}(k:WK K CW){f:List (List Int)->Option (List<|Option Int)}(hc:∀ZZ Wf,iR [.any,.fr rF ZZ,.fr a7 Wf] tc (f ZZ) (b8 a7))(hN:N.length=3)(h:spIW CM CW f vs H Q E):
  (bC (lA K (bf 0) (bf 1) "floor")<|bC (lA K (bf 0) (bf 2) "reach")<|bC (lA K (bf 0) tc "homes")<|lA K (bf 0) (ki CM (spIM CM) [] E0<|aK (bf 1) bL) "meetings") {nx:=λa H'=>Q .non H',rt:=Q} (start N vs) H:=by
 obtain⟨F,x,dx,vf,ZZ,Wf,Wh,rfl,sb,nt,tg,hFx,hx,hvf,hf,q⟩:=h;have es:start N [.ref x,vf,.int Wf]=[Wb (.ref x),Wb vf,Wb (.int Wf)]:=by unfold start;simp[hN]
 rw[es];refine aD vf rfl<|rC rfl hx k.c k.floor (by decide) ?_;refine aD (.int Wf) rfl<|rC (fs:=[("floor",vf)]) rfl ae k.c k.reach (show 1<1000 by decide) ?_;rw[rY];have gA:aL F (aB H x<|.ins CW dx<|dN "reach" (.int Wf) [("floor",vf)]):=λb o e=>by rw[ah (ag e hFx)];exact sb b o e
 have tg2:TbG (aB H x<|.ins CW dx<|dN "reach" (.int Wf) [("floor",vf)]):=tg.pokI trivial hx;generalize eH2:aB H x (.ins CW dx<|dN "reach" (.int Wf) [("floor",vf)])=H2 at gA tg2;have h2x:H2 x=Wb (.ins CW dx [("floor",vf),("reach",.int Wf)]):=by rw[<- eH2,ae];rfl
 have h2o:∀b,b≠x->H2 b=H b:=λb n=>by rw[<- eH2,ah n]
 have SS:SR ⟨H2,F,F⟩ F [.any,.fr rF ZZ,.fr a7 Wf] [Wb (.ref x),Wb vf,Wb (.int Wf)] H2:=by exact⟨⟨Sm.refl _,aL.refl _,gA,λb o h=>.inl h,nt,tg2⟩,rfl,jU trivial<|jU ⟨vf,rfl,hvf⟩<|jU ⟨_,rfl,rfl⟩ nofun,λi j s t p h1 h2 o1 o2 a a=>(BX rfl h1 o1).elim⟩
 refine hc ZZ Wf _ F _ H2 _ Wh SS hf λhh hs F' H3 x1 hp rh=>?_;have h3x:H3 x=Wb (.ins CW dx [("floor",vf),("reach",.int Wf)]):=x1.hh.kp _ _ trivial h2x;have nhx:x≠hh:=ag h3x hp;have F'x:F' x=Wc:=x1.offI hFx h2x;have F'h:F' hh=Wc:=x1.sub.free hp;have H2h:H2 hh=Wc:=x1.hh.free hp;refine rC rfl ((ah nhx).trans h3x) k.c k.homes (show 2<1000 by decide) ?_;have tg3:TbG H3:=x1.hh.tg tg2;have tg4:TbG (aB (aB H3 hh<|.lst hs) x<|.ins CW dx<|dN "homes" (.ref hh) [("floor",vf),("reach",.int Wf)]):=by exact(tg3.pokN (p:=hh) (o:=.lst hs) trivial hp).pokI trivial ((ah nhx).trans h3x)
 have h4x':aB (aB H3 hh<|.lst hs) x (.ins CW dx<|dN "homes" (.ref hh) [("floor",vf),("reach",.int Wf)]) x=Wb (.ins CW dx [("floor",vf),("reach",.int Wf),("homes",.ref hh)]):=by rw[ae];rfl
 have h4h':aB (aB H3 hh<|.lst hs) x (.ins CW dx<|dN "homes" (.ref hh) [("floor",vf),("reach",.int Wf)]) hh=Wb (.lst hs):=by rw[ah (V8 nhx),ae]
 have h4o':∀b,b≠x->b≠hh->aB (aB H3 hh<|.lst hs) x (.ins CW dx<|dN "homes" (.ref hh) [("floor",vf),("reach",.int Wf)]) b=H3 b:=λb n1 n2=>by rw[ah n1,ah n2]
 generalize aB (aB H3 hh<|.lst hs) x (.ins CW dx<|dN "homes" (.ref hh) [("floor",vf),("reach",.int Wf)])=H4 at tg4 h4x' h4h' h4o';refine⟨vf,rfl,λm dm hm hdm Wr=>⟨m,dm,vf,rfl,ae,λp hp5=>⟨rfl,?_⟩⟩⟩;have mx:m≠x:=(ag h4x' hm).symm;have mh:m≠hh:=(ag h4h' hm).symm;have dmx:dm≠x:=(ag h4x' hdm).symm;have dmh:dm≠hh:=(ag h4h' hdm).symm;have pm:p≠m:=(ag ae hp5).symm;rw[ah pm]at hp5;have pdm:p≠dm:=(ag ae hp5).symm;rw[ah pdm]at hp5;have px:p≠x:=(ag h4x' hp5).symm;have ph:p≠hh:=(ag h4h' hp5).symm;have tg5:TbG (aB (aB (aB (aB (aB H4 dm<|.own m) m<|.ins CM dm []) m<|.ins CM dm [("floor",vf)]) p<|.dK []) m<|.ins CM dm [("floor",vf),("ended",.ref p)]):=by exact((((tg4.pokN (p:=dm) (o:=.own m) trivial hdm).pokN (p:=m) (o:=.ins CM dm []) trivial ((ah<|V8 Wr).trans hm)).pokI (p:=m) (o:=.ins CM dm [("floor",vf)]) trivial ae).pokN (p:=p) (o:=.dK []) trivial ((ah pm).trans ((ah pm).trans ((ah pdm).trans hp5)))).pokI (p:=m) (o:=.ins CM dm [("floor",vf),("ended",.ref p)]) trivial ((ah<|V8 pm).trans ae)
 have h5o:∀b,b≠m->b≠dm->b≠p->aB (aB (aB (aB (aB H4 dm<|.own m) m<|.ins CM dm []) m<|.ins CM dm [("floor",vf)]) p<|.dK []) m (.ins CM dm [("floor",vf),("ended",.ref p)]) b=H4 b:=λb n1 n2 n3=>by rw[ah n1,ah n3,ah n1,ah n1,ah n2]
 have h5m:aB (aB (aB (aB (aB H4 dm<|.own m) m<|.ins CM dm []) m<|.ins CM dm [("floor",vf)]) p<|.dK []) m (.ins CM dm [("floor",vf),("ended",.ref p)]) m=Wb (.ins CM dm [("floor",vf),("ended",.ref p)]):=ae;have h5p:aB (aB (aB (aB (aB H4 dm<|.own m) m<|.ins CM dm []) m<|.ins CM dm [("floor",vf)]) p<|.dK []) m (.ins CM dm [("floor",vf),("ended",.ref p)]) p=Wb (.dK []):=by rw[ah pm,ae]
 generalize aB (aB (aB (aB (aB H4 dm<|.own m) m<|.ins CM dm []) m<|.ins CM dm [("floor",vf)]) p<|.dK []) m (.ins CM dm [("floor",vf),("ended",.ref p)])=H5 at tg5 h5o h5m h5p;have h5x:H5 x=Wb (.ins CW dx [("floor",vf),("reach",.int Wf),("homes",.ref hh)]):=by rw[h5o x (V8 mx) (V8 dmx) (V8 px)];exact h4x'
 have h5h:H5 hh=Wb (.lst hs):=by rw[h5o hh (V8 mh) (V8 dmh) (V8 ph)];exact h4h'
 refine rC rfl h5x k.c k.meetings (show 3<1000 by decide) ?_;have tg6:TbG (aB H5 x<|.ins CW dx<|dN "meetings" (.ref m) [("floor",vf),("reach",.int Wf),("homes",.ref hh)]):=tg5.pokI trivial h5x;have old:∀b o,b≠x->H3 b=Wb o->aB H5 x (.ins CW dx<|dN "meetings" (.ref m) [("floor",vf),("reach",.int Wf),("homes",.ref hh)]) b=Wb o:=λb o n e=>by
  have nh:b≠hh:=ag e hp;have e4:H4 b=Wb o:=by rw[h4o' b n nh];exact e
  rw[ah n,h5o b (ag e4 hm) (ag e4 hdm) (ag e4 hp5)];exact e4
 have F'm:F' m=Wc:=x1.sub.free<|(h4o' m mx mh).symm.trans hm;have F'p:F' p=Wc:=x1.sub.free<|(h4o' p px ph).symm.trans hp5;have freeH:∀b,b≠x->b≠hh->H4 b=Wc->H b=Wc:=λb n1 n2 e=>by rw[h4o' b n1 n2]at e;rw[<- h2o b n1];exact x1.hh.free e
 refine q hh hs m dm p F' _ ⟨⟨λb o n e=>?_,λb ps e=>?_,λa=>tg6⟩,x1.ff,λb o e=>?_,λb o e=>?_,x1.nt nt,tg6⟩ (qr F'x F'h F'm F'p) (oG (by rw[<- h2o hh (V8 nhx)];exact H2h) (freeH m mx mh hm)<|freeH p px ph hp5) ?_ (by rw[ah (V8 nhx)];exact h5h) rh (by rw[ah mx];exact h5m) (by rw[ah px];exact h5p)
 ·obtain⟨n1,e⟩:=b7 e;exact old b o n1<|x1.hh.kp b o n (by rw[h2o b n1];exact e)
 ·obtain⟨n1,e⟩:=b7 e;obtain⟨more,e3⟩:=x1.hh.tb b ps (by rw[h2o b n1];exact e);exact⟨more,old b _ n1 e3⟩
 ·exact old b o (ag e F'x)<|x1.sub b o e
 ·rcases x1.nw b o e with z|z
  ·exact .inl z
  ·refine .inr ?_;show zC (del H x b);by_cases y:b=x
   ·rw[y,bR];trivial
   ·rw[b0 y,<- h2o b y];exact z
 ·rw[ae];rfl
section
variable {Γ:List Slot}{T:Type}{CM CW:Wy}{u:TS}{fin:Fc->T->Ends->Prop}{f:List (List Int)->Option (List<|Option Int)}
theorem yB{o1 o2 u:HO}{Q:Prop}(z:aB (aB F w o1) m o2 b=Wb u)(f:b=m->o2=u->Q)(g:b=w->o1=u->Q)(h:b≠w->F b=Wb u->Q):Q:=gZ z f λx z=>gZ z g h
theorem BY(fr:Fr ⟨Hx,F1,F1⟩ F' H')(k2:∀b o,H1 b=Wb o->Hx b=Wb o)(k3:∀b,b≠w->zC (Hx b)->zC (H1 b))(hw:H1 w=Wc)(hm:H1 m=Wc)(f1:F' w=Wc)(f3:F' m=Wc)(q1:H' w=Wb o1)(q4:H' m=Wb o2)(t1:fI o1)(t2:fI o2):Ext F1 H1 (aB (aB F' w o1) m o2) H' :=
 ⟨⟨λb o n z=>fr.keep.kp b o n<|k2 b o z,λb ps z=>fr.keep.tb b ps<|k2 b _ z,λx=>fr.tg⟩,λb o z=>have z:=fr.low b o z
  ci (ag z f3) (ci (ag z f1) z),λb o z=>yB z (λe1 e2=>e1▸e2▸q4) (λe1 e2=>e1▸e2▸q1) λx z=>fr.sub b o z,λb o z=>yB z (λe x=>.inr<|nB<|e▸hm) (λe x=>.inr<|nB<|e▸hw) λn z=>(fr.base b o z).imp id (k3 b n),λx=>iW (iW fr.nt t1) t2⟩
theorem tw{σ:St}(g:Nat)(hl:σ.length=Γ.length)(n:∀(j:Nat) t,Γ[j]?=Wb t->t.own=Wd->σ[j]?≠Wb (Wb<|.ref b))(h:s.own=Wd->v≠Wb (.ref b))(j:Nat)(t:Slot)(z1:(Γ.set g s)[j]?=Wb t)(z2:t.own=Wd):(σ.set g v)[j]?≠Wb (Wb<|.ref b):=λz3=>h9 z1 (λe1 e2 l=>h (e2▸z2)<|lK e1 (Nat.lt_of_lt_of_eq l hl.symm) z3) λnj z1=>n j t z1 z2<|(bM nj).symm.trans z3
theorem bv_make{gg:List (List Int)->Int->List (Option Int)->Option T}(i g1 g2:Nat)(Wr:i≠g1/\i≠g2/\g1≠g2/\g1<Γ.length/\g2<Γ.length)(ha:EA Γ t oa (ay rF<|bo a7))(h:∀ZZ Wf hh p Wh,BV (((Γ.set i<|.fr (qq CM CW) (ZZ,Wf,hh,p)).set g1 (.ol (b8 a7) (λb=>b=hh) Wh)).set g2 (.od rP (λb=>b=p) [])) u (gg ZZ Wf Wh) fin):
  BV Γ (bC (ie (ki CW (spIW CM CW f) [] E0 t)<|du i)<|yA g1<|yA g2 u) (oa.bind λa=>(f a.1).bind λWh=>gg a.1 a.2 Wh) fin:=by
 intro C F σ H D x S e k;obtain⟨a,e1,e⟩:=a8 e;obtain⟨Wh,e2,e⟩:=a8 e;refine ha C F σ H _ a S e1 λvs F1 H1 x1 r1=>?_;obtain⟨vf,us,rfl,r2,v2,rfl,r3⟩:=r1;cases r3;have S1:=S.grow x1;intro w dx hw hdx nd;have Fw:F1 w=Wc:=S1.sub.free hw;have Fd:F1 dx=Wc:=S1.sub.free hdx;refine oi79 F1 w dx vf a.1 a.2 Wh rfl (λb o z=>ci (ag z Fw)<|ci (ag z Fd)<|S1.sub b o z) S1.nt ?_ Fw ae r2 e2 λhh hs m dm p F' H' fr zf zn q1 q2 q3 q4 q5=>⟨rfl,oq04 zf λf1 f2 f3 f4=>oq03 zn λn1 n2 n3=>?_⟩
 ·exact(S1.tg.pokN (p:=dx) (o:=.own w) trivial hdx).pokN trivial ((ah<|V8 nd).trans hw)
 have frH:∀b,aB (aB H1 dx<|.own w) w (.ins CW dx []) b=Wc->H1 b=Wc/\b≠w:=λb z=>by have bw:b≠w:=(ag ae z).symm;have z:=(ah bw).symm.trans z;exact⟨(ah (ag ae z).symm).symm.trans z,bw⟩
 obtain⟨n1,hw1⟩:=frH hh n1;obtain⟨n2,hw2⟩:=frH m n2;obtain⟨n3,hw3⟩:=frH p n3;have hm:hh≠m:=yz q2 q4 nofun;have pm:p≠m:=yz q5 q4 nofun;have ph:p≠hh:=yz q5 q2 nofun;have ext:=BY fr (λb o z=>(b0<|ag z hw).trans (ci (ag z hw)<|ci (ag z hdx) z)) (λb n y=>by
  rw[b0 n,ah n]at y;by_cases bd:b=dx
  ·rw[bd,ae]at y;exact y.elim
  ·rw[ah bd]at y;exact y) hw n2 f1 f3 q1 q4 trivial trivial
 generalize eF:aB (aB F' w<|.ins CW dx [("floor",vf),("reach",.int a.2),("homes",.ref hh),("meetings",.ref m)]) m (.ins CM dm [("floor",vf),("ended",.ref p)])=F2 at ext;have e3:aL F' F2:=λb o z=>eF▸ci (ag z f3) (ci (ag z f1) z);have rf:=rF.mono e3<|rF.mono fr.low r2;have S2:=S1.grow ext;have S3:=S2.setF (r:=qq CM CW) (a:=(a.1,a.2,hh,p)) (v:=.ref w) i ⟨w,dx,vf,m,rfl,eF▸(ah<|V8 hw2).trans ae,rf,m,dm,vf,rfl,eF▸ae,rf⟩;have off:∀b,b≠m->b≠w->F' b=Wc->F2 b=Wc:=λb n1 n2 z=>eF▸(ah n1).trans ((ah n2).trans z);have S4:=S3.setG (p:=hh) (s:=.ol (b8 a7) (λb=>b=hh) Wh) g1 rfl ⟨hh,hs,rfl,rfl,S1.keep.free n1,off hh hm hw1 f2,q2,Paired.imp2 (λc c z=>Rp.mono _ e3 z) q3⟩<|tw i S1.len (λj t q o z=>S1.np n1 q o z) nofun;have S5:=S4.setG (p:=p) (s:=.od rP (λb=>b=p) []) g2 rfl ⟨p,[],rfl,rfl,S1.keep.free n3,off p pm hw3 f4,q5,.nil⟩ (tw g1 S3.len (tw i S1.len (λj t q o z=>S1.np n3 q o z) nofun) λc z=>ph (V.ref.inj<|Z4 z).symm);exact⟨.ref hh,.ref p,h a.1 a.2 hh p Wh C _ _ H' D x S5 e k⟩
end
end
section
open PySem PySem.Spec PyProof.Rows
variable [Kn:Kon]
def mT(K:Z1)(mg:ZM)(x:Str)(C:Wy)(qual:Str)(st:WH)(ps:ZL):Prop:=∃f fd,Fun K "__init__" qual st f fd/\Binds K fd ps []/\Mk K C f/\mg x=Wb (.ref C)
def BZ(P:W7)(w:WB)(K:Z1)(mg:ZM)(base:WD)(k:Nat)(x:Str)(C:Wy)(ps:ZL)(sp:Sp):Prop :=
 ∃f fd,FnOk P w K mg base sH k f fd ps sp/\Mk K C f/\Binds K fd ps []/\mg x=Wb (.ref C)
def init_mk{K:Z1}{mg:ZM}{st:WH}{kV Wu pm ZP ct:Wx}(X:K.In h)(G:h.Ns S6 mg)(a:PySem.W.nsIn K S6 x=Wb (Wb<|.ref C))(i:P0 K (.ref C) "__init__"=Wb (Wb<|.ref f))(l:K.lookup f=Wb ⟨oc,od,.func<|T5 "__init__" qual (bU st) (bb st) (ao st) .none kV Wu pm an ZP ct,osl⟩)(c:N8 K ZP qual=Wd)(k:P1 K (.ref f)=Wd)(hf:PySem.W.isFn K (.ref f)=Wd)(mk:PySem.W.makesIn K C=Wd)(kc:P1 K (.ref C)=Wd)(hb:∀(kV Wu pm:Wx) (an:Zz) (ZP ct:Wx) (us:ZO),us.length=ps.length->E8 (T5 "__init__" qual (bU st) (bb st) (ao st) .none kV Wu pm an ZP ct) ⟨us,[]⟩=pure (ps.zip us)):mT K mg x C qual st ps :=
 ⟨f,_,iV (st:=st) l c k,(iV (st:=st) l c k).binds hb,⟨mk,i,hf,kc⟩,PySem.W.mg_of X G a⟩
section
variable {P:W7}{w:WB}{K:Z1}{mg:ZM}{base:WD}{x qual:Str}{st:WH}{N ps:ZL}{k:Nat}{C:Wy}
def mT.has(D:mT K mg x C qual st ps)(S:FnScope N ps (ao st))(len:∀vs H Q E,sp vs H Q E->vs.length=ps.length)(Wv:∀(f:Wy) (ZP:Wx) (A:WE) (outer:List Env) (s:Ww) (H:Hp) (vs:List V) (Q:VK) (E:XK),Room k (A.deeper<|VD qual (ao st) s.heap.objs.size f ZP)->sp vs H Q E ->
   ∃t,nQ (lD sH P w K mg base N qual (ao st) f ZP A outer s H E).nox (bb st) t/\t {nx:=λa H'=>Q .non H',rt:=Q} (start N vs) H):BZ P w K mg base (k+1) x C ps sp:=by
 obtain⟨f,fd,F,b,hm,hg⟩:=D;exact⟨f,fd,F.ok S len λZP A outer s H vs Q E hr h=>Wv f ZP A outer s H vs Q E hr h,hm,b,hg⟩
def pJ{X:Cx}{sp:Sp}{t:TA}{e:WC}{es:List WC}{p pos:Pos}(G:BZ X.prog X.w X.K X.mg X.base k x C ps sp)(hr:Room (k+1) X.A)(hg:Gl X x)(ha:PA X (e ::es) t)(hdb:autoParam ((x==("__debug__":Str))=We) gR._auto_1)(he:autoParam (X5 (e ::es) X.env=(We,WF e X.env) ::X5 es X.env) cV._auto_1)(hpl:autoParam ((WI pos<|X5 es X.env).any (·.1)=We) cV._auto_1):PE X (.Call (.Name x p) (e ::es) [] pos) (ki C sp [] E0 t):=by obtain⟨f,fd,F,hm,hb,hg'⟩:=G;exact sw hm F hr hg hg' hb .nil qX ha hdb he hpl
end
end
section
open PySem PySem.Spec PyProof.Rows
section
variable {X:Cx}{K:Z1}
def pe_fldK(h:X.K=K)(he:PE X e ta)(hb:J5 e f X.env (WF e X.env)=WF e X.env):PE X (.Attribute e f pos) (gD K ta f):=by subst h;exact pe_fld he hb
def uV(h:X.K=K):kh X (WS .Add) (xV K):=by subst h;exact op_catT
end
variable [Kn:Kon]
section
variable {Γ:List Slot}{ta:TE}
def iR.cast{α:Type}{r:Rp α}{o o':Option (List α)}(h:iR Γ ta o r)(e:o'=o):iR Γ ta o' r:=e▸h
def em_some{α:Type}{r:Rp α}{o:Option (α×c6)}(h:EM Γ g p ta o r):EM Γ g p ta (o.bind λx=>Wb (Wb x.1,x.2)) (b8 r):=λC F σ H Q x S e k=>by obtain⟨y,e1,e⟩:=a8 e;cases e;exact h C F σ H Q y S e1 λv F' H' S' r1=>k v F' H' S' r1
end
section
variable {Γ:List Slot}{α β S T:Type}{r:Rp α}{s:Rp β}{K:Z1}{u tl:TS}{fin:Fc->T->Ends->Prop}
def C0{Γf:Wy->S->List Slot}{Γt:Wy->S->α->List Slot}{body:S->α->Option S}{f:S->Option T}(st:S)(j:Nat){φ:ZJ}(hj:Γ[j]?=Wb (.ol r φ xs))(hs:∀p,SubL (Γ.set j<|.ol r (λb=>b=p) xs) (Γf p st))(hjf:∀p s,(Γf p s)[j]?=Wb (.ol r (λb=>b=p) xs))(hg:∀p s,GV (Γf p s) m g r (Γt p s))(hb:∀p s x,BV (Γt p s x) tl (body s x) (zF<|Γf p))(h:∀p s,BV (Γf p s) u (f s) fin):BV Γ (bC (ub (lz K<|bf j) g tl) u) ((bB body xs st).bind f) fin :=
 (uL (rf:=rfE) (e:=Empty.elim) st j hj hs hjf hg (λp s x=>bv_nx<|hb p s x) BB (λa x=>x.elim) h).cast (BA xs st)
end
end
open PySem PySem.Spec PyProof.Rows
section
variable [Kn:Kon]{Γ:List Slot}{ta:TE}{K:Z1}
def ko(h:EV Γ ta o (qp a7 (b8 a7)<|b8 a7)):iR Γ (qV (sL K)<|aK ta bL) (o.bind λx=>Wb [Wb x.1,x.2.1,x.2.2]) (b8 a7):=λC F σ H Q xs S e k=>by obtain⟨x,e1,e⟩:=a8 e;cases e;refine h C F σ H _ x S e1 λv F' H' x1 hv=>?_;obtain⟨p,a,b,c,e2,h1,h2,h3,h4⟩:=hv;exact⟨p,[a,b,c],by rw[e2],.inr<|l9.of<|x1.sub _ _ h1,λl hl=>k l [a,b,c] F' H' x1 hl<|.cons h2<|.cons h3<|.cons h4 .nil⟩
end
end L2

namespace Pu
def uW{α:Type}(d:List (Int×α))(k:ZK):Option α:=k.bind λi=>find d i
end Pu

namespace L2
open PySem PySem.Spec PyProof.Rows Pu
section
variable {prog:W7}{w:WB}{A:WE}{E:ZU}{s:Ww}
def uX{Q:Int->Ww->Prop}(h:Q 4238894112 {s with toks:=s.toks+1}):Wz (WA prog w) A (pyHash .none) Q E s:=by
 have hT:s.TypeIs .none "NoneType":=rfl;show Wz _ _ (pyHashByItsType .none) Q E s;unfold pyHashByItsType;have hv:[J9].any Value.onHeap=We:=rfl;refine Z0 ?_;rw[cRoomFor,VQ (by rw[hv];exact Z3)];refine Z8 ?_;refine Z0<|Vj hT G6.lookup ?_;show Wz _ _ (if (Wb (Value.builtin "NoneType.__hash__")==Wb J9)=Wd then _ else _) Q E s;rw[VQ (by rw[beq_builtin_none];exact Z3)];refine Z0<|Vj hT G6.lookup ?_;show Wz _ _ (callSpecialIfBoundUnlessNone? .none "__hash__" _ >>= _) Q E s;refine Z0 (wpAny_callSpecialIfBoundUnlessNone?_slot hT G6
  (O3 G6 hT PySem.F.entry_NoneType_hash
   (show Wz _ _ (do ret (<- mkInt 4238894112)) _ _ s from wpAny_ret_mkInt ?_) (PySem.F.args_NoneType_hash_1 _)))
 show Wz _ _ (if (decide (-(2:Int)^63<=4238894112)&&decide ((4238894112:Int)<2^63))=Wd then _ else _) Q E _;rw[VP (by decide)];exact Z8 h
end
def yC:Option Key->Wx->Bool
 |none,.none=>Wd
 |none,_=>We
 |some k,v=>jl k v
def hW(h:yC Wc v=Wd):v=.none:=by cases v<;>first|rfl|cases h
def mU(h:jl k v=Wd):yC Wc v=We:=by rcases bF h with ⟨i,t,rfl,rfl⟩|⟨x,t,rfl,rfl⟩<;>rfl
def yD(prog:W7)(w:WB):PySem.KeyKind prog w (Option Key) where
 is:=yC
 hash:=λk=>match k with|none=>4238894112|some k=>keyH w k
 inj:=λv a b ha hb=>by
  cases a with
  |none=>cases b with
   |none=>rfl
   |some b=>rw[mU (show jl b v=Wd from hb)]at ha;cases ha
  |some a=>cases b with
   |none=>rw[mU (show jl a v=Wd from ha)]at hb;cases hb
   |some b=>rw[(bi prog w).inj v a b ha hb]
 byValue:=λk v h=>by
  cases k with
  |none=>rw[hW h];rfl
  |some k=>exact(bi prog w).byValue k v h
 pyHash:=λ{A E s k v Q} hv h=>by
  cases k with
  |none=>rw[hW hv];exact uX h
  |some k=>exact(bi prog w).pyHash (k:=k) hv h
 eqBool:=λ{A E s a b u v Q} hu hv h=>by
  cases a with
  |none =>
   rw[hW hu];cases b with
   |none=>rw[hW hv];exact T4.same _ _ _ _ _ (by simpa using h)
   |some b =>
    rcases bF hv with zr2_|zr1_
    ·obtain⟨i,t,rfl,rfl⟩:=zr2_;exact T4.none_int i t _ _ _ _ (by simpa using h)
    ·obtain⟨x,t,rfl,rfl⟩:=zr1_;exact T4.none_str x t _ _ _ _ (by simpa using h)
  |some a =>
   cases b with
   |none =>
    rw[hW hv];rcases bF hu with zr4_|zr3_
    ·obtain⟨i,t,rfl,rfl⟩:=zr4_;exact T4.int_none i t _ _ _ _ (by simpa using h)
    ·obtain⟨x,t,rfl,rfl⟩:=zr3_;exact T4.str_none x t _ _ _ _ (by simpa using h)
   |some b =>
    refine(bi prog w).eqBool (a:=a) (b:=b) hu hv ?_;have:decide (Wb a=Wb b)=decide (a=b):=by simp
    rw[this]at h;exact h
 «strs»:=λk x t v h=>by
  cases k with
  |none=>cases h
  |some k=>exact(bi prog w).strs k x t v h
def zU{h:WD}{f:Key->Option Wx}(m:h.MapOf (bi P w) a f):h.MapOf (yD P w) a (λk=>k.bind f):=by
 obtain⟨o,es,ep,h1,h2,h3,h4,h5⟩:=m;refine⟨o,es,ep,h1,h2,h3,λe he=>?_,λk=>?_⟩
 ·obtain⟨k,g1,g2⟩:=h4 e he;exact(aD (Wb k) g1 g2)
 ·cases k with
  |some k=>exact h5 k
  |none =>show findBy yC es Wc=Wc;unfold findBy;rw[Option.map_eq_none_iff,Array.find?_eq_none];intro e he;obtain⟨k,g1,_⟩:=h4 e he;rw[mU (show jl k e.key=Wd from g1)];exact Z3
section
variable {X:Cx}{ZY:ZN}{σ:St}{H:Hp}{s:Ww}{a:Wy}{A:WE}{E:ZU}{u:Wx}
def d_inN{Q:ZU}(I:Inv X ZY σ H s)(e:H a=Wb (.dK kvs))(h:∀s',Inv X ZY σ H s'->Q (.bool We) s'):Wz (WA X.prog X.w) A (R8 .In .none<|.ref a) Q E s:=by obtain⟨z,hd,vs,rel,dd⟩:=y9 I.hok e;exact wpAny_in_of (knd:=yD X.prog X.w) (k:=Wc) rfl hd (zU dd.mapOf)<|h _<|I.tok _
def tDInO(ty td:TE):TE:=λσ H Q=>ty σ H λy H1=>td σ H1 λx H2=>∃a kvs,x=.ref a/\H2 a=Wb (.dK kvs)/\((y=.non/\Q (.bl We) H2)\/∃k,y=kV k/\Q (.bl (iT kvs k).isSome) H2)
def pc_dinO(hu:X.A.units+1<WO)(hi:PE X i ty)(ho:PE X o td):PC X .In i o (tDInO ty td):=by
 intro ZY s σ H Q I h;refine bI (hi ZY s σ H _ I h) λiv s1 ⟨y,H1,I1,ry,q1⟩=>bI (ho ZY s1 σ H1 _ I1 q1) λu s2 ⟨x,H2,I2,rx,a,kvs,ex,g,q2⟩=>?_;subst ex;obtain rfl:u=U6 a:=rx;rcases q2 with zr6_|zr5_
 ·obtain⟨rfl,q2⟩:=zr6_;obtain rfl:iv=J9:=ry;exact d_inN I2 g λs3 I3=>⟨.bl We,H2,I3,rfl,q2⟩
 ·obtain⟨k,rfl,q2⟩:=zr5_;exact d_in hu I2 (mG.k (k:=k) g) ry λs3 I3=>⟨.bl (iT kvs k).isSome,H2,I3,rfl,q2⟩
end
section
variable [Kn:Kon]{Γ:List Slot}{α:Type}{r:Rp α}{ta tb:TE}
def ev_inDO(hi:EV Γ ta oi (b8 a7))(hd:EV Γ tb o (rD r)):EV Γ (tDInO ta tb) (oi.bind λk=>o.bind λd=>Wb<|(uW d k).isSome) aX:=by
 intro C F σ H Q b S e k;obtain⟨i,e1,e⟩:=a8 e;obtain⟨d,e2,e⟩:=a8 e;cases e;refine hi C F σ H _ i S e1 λv F' H' x1 r1=>hd C F' σ H' _ d (S.grow x1) e2 λw F2 H2 x2 ⟨p,ws,e4,h1,h2⟩=>(eB p ws e4 (x2.sub _ _ h1) ?_);cases i with
 |none=>exact .inl ⟨r1,k _ F2 H2 (x1.trans x2) rfl⟩
 |some i =>
  have r1:v=.int i:=r1;refine .inr<|aD (.inl i) r1 ?_;obtain⟨g1,g2⟩:=il (k:=i) h2;have eb:(iT ws<|.inl i).isSome=(uW d<|some i).isSome:=by
   show _=(find d i).isSome;cases q:find d i with
   |none=>rw[g2 q];rfl
   |some x=>obtain⟨v,h3,h4⟩:=g1 x q;rw[h3];rfl
  rw[eb];exact k _ F2 H2 (x1.trans x2) rfl
end
section
variable [Kn:Kon]
def nV{α:Type}(Γ:List Slot)(t:TE)(o:Option α)(r:Rp α):Prop:=∀C F σ H Q x,SR C F Γ σ H->o=Wb x->(∀v G F' H',Ext F H F' H'->aL G F'->(∀b u,G b=Wb u->H b=Wc)->r.rel G v x->Q v H')->t σ H Q
def nV.ev{α:Type}{o:Option α}{r:Rp α}(h:nV Γ t o r):EV Γ t o r:=λC F σ H Q x S e k=>h C F σ H Q x S e λv a F' H' x1 s a q=>k v F' H' x1<|r.mono s q
def Gnd{α:Type}(r:Rp α):Prop:=∀{F F':Hp} {v:V} {a:α},r.rel F v a->r.rel F' v a
def yE:Gnd a7:=λh=>h
def nil_:Hp:=λx=>Wc
def rLn{α:Type}(r:Rp α):Rp (List α):=⟨λH v xs=>∃p vs,v=.ref p/\H p=Wb (.lst vs)/\Paired (r.rel H) vs xs,λe ⟨p,vs,h1,h2,h3⟩=>(eB p vs h1 (e _ _ h2)<|Paired.imp2 (λx x q=>r.mono e q) h3)⟩
def rLd{α:Type}(r:Rp α):Rp (List α):=⟨λH v xs=>∃p vs,v=.ref p/\H p=Wb (.lst vs)/\vs.Nodup/\Paired (r.rel H) vs xs,λe ⟨p,vs,h1,h2,h0,h3⟩=>⟨p,vs,h1,e _ _ h2,h0,(Paired.imp2 (λx x q=>r.mono e q) h3)⟩⟩
def Thg{α:Type}(r:Rp α):Prop:=∀{H:Hp} {v:V} {a:α},r.rel H v a->∃q u,v=.ref q/\H q=Wb u
def C1{α:Type}{r:Rp α}:Thg (rLn r):=λ⟨p,vs,h1,h2,_⟩=>⟨p,_,h1,h2⟩
def Le{α:Type}(r s:Rp α):Prop:=∀{H:Hp} {v:V} {a:α},r.rel H v a->s.rel H v a
def le_ln{α:Type}{r s:Rp α}(h:Le r s):Le (rLn r) (rL s):=λ⟨p,vs,h1,h2,h3⟩=>⟨p,vs,h1,Rd.of h2,Paired.imp2 (λx x q=>h q) h3⟩
def le_ld{α:Type}{r s:Rp α}(h:Le r s):Le (rLd r) (rL s):=λ⟨p,vs,h1,h2,_,h3⟩=>⟨p,vs,h1,Rd.of h2,Paired.imp2 (λx x q=>h q) h3⟩
def C2{α:Type}{r:Rp α}:Le r r:=λh=>h
def ev_leR{α:Type}{o:Option α}{r s:Rp α}(l:Le r s)(h:EV Γ t o r):EV Γ t o s:=λC F σ H Q x S e k=>h C F σ H Q x S e λv F' H' x1 q=>k v F' H' x1<|l q
section
variable {Γ:List Slot}{α β:Type}{r:Rp α}{rb:Rp β}{te:TE}
def evg_l(g:Gnd r)(h:iR Γ te o r):nV Γ te o (rLn r):=λC F σ H Q xs S e k=>h C F σ H Q xs S e λp vs F' H1 x1 hp pr=>by
 refine k (.ref p) (aB nil_ p<|.lst vs) (aB F' p<|.lst vs) _ (x1.trans<|Ext.new x1.sub hp) (λb u z=>?_) (λb u z=>?_) ⟨p,vs,rfl,ae,Paired.imp2 (λx x z=>g z) pr⟩
 ·by_cases e:b=p
  ·subst e;rw[ae]at z ⊢;exact z
  ·rw[ah e]at z;cases z
 ·by_cases e:b=p
  ·subst e;exact x1.hh.free hp
  ·rw[ah e]at z;cases z
def un(A B:Hp):Hp:=λb=>match A b with|some u=>Wb u|none=>B b
def un_l(h:A b=Wb u):un A B b=Wb u:=by unfold un;rw[h]
def un_r(h:A b=Wc):un A B b=B b:=by unfold un;rw[h]
def CI(r:Rp α)(t:β->Option Bool)(f:β->Option α)(xs:List β)(H F' H1:Hp)(D:Wy)(i:Nat)(ys:List V)(H2:Hp):Prop:=∃F1 G p N,H2=aB G D (.lst ys)/\G D=Wc/\Ext F' H1 F1 G/\cp t f (xs.take i)=Wb p/\aL N F1/\(∀b u,N b=Wb u->H b=Wc)/\ys.Nodup/\Paired (r.rel N) ys p
def ci_no(F1D:F1 D=Wc)(x:Ext F1 (aB G D<|.lst ys) A B):A D=Wc:=by
 cases q:A D with
 |none=>rfl
 |some o =>
  rcases x.nw D o q with z|z
  ·rw[F1D]at z;cases z
  ·rw[ae]at z;cases z
def C3{t:β->Option Bool}{f:β->Option α}(hD:H1 D=Wc)(hG:G D=Wc)(x2:Ext F' H1 F1 G)(x:Ext F1 (aB G D<|.lst ys) A B)(hpp:cp t f (xs.take i)=Wb pp)(sM:aL M A)(fM:∀b u,M b=Wb u->H b=Wc)(nM:zs.Nodup)(pz:Paired (r.rel M) zs pp):CI r t f xs H F' H1 D i zs (aB B D<|.lst zs):=by
 refine⟨A,del B D,pp,M,?_,bR,⟨pe (x2.hh.trans<|(pc (o:=.lst ys) hG trivial).trans x.hh) hD (x.hh.kp D (.lst ys) trivial ae) trivial,x2.ff.trans x.ff,λb o h=>?_,λb o h=>?_,λz=>x.nt<|x2.nt z⟩,hpp,sM,fM,nM,pz⟩
 ·funext b;unfold aB del;split<;>rfl
 ·rw[b0 (ag h<|ci_no (x2.sub.free hG) x)];exact x.sub b o h
 ·rcases x.nw b o h with z|z
  ·exact x2.nw b o z
  ·have n:b≠D:=by rintro rfl;rw[ae]at z;cases z
   rw[ah n]at z;exact .inr<|x2.hh.un z
set_option tactic.hygienic true in
def xh{t:β->Option Bool}{f:β->Option α}{Γt:β->List Slot}(tr:Thg r)(hi:IV Γ wi ox rb)(hc:(cap.map (·.2)).Nodup)(hm:m<=loc.length)(hg:GV (uH loc cap Γ) m g rb Γt)(ht:∀x,ET (Γt x) tt (t x))(he:∀x,nV (Γt x) te (f x) r):nV Γ (p6 wi loc cap g tt te) (ox.bind λxs=>bJ t f xs) (rLd r):=by
 intro C F σ H Q as S e k;obtain⟨xs,e1,e⟩:=a8 e;unfold bJ at e;split at e
 case isFalse=>cases e
 rename_i hl;refine hi C F σ H _ xs S e1 λJ F' H1 x1 W D hD=>?_;have sn:∀j,j<m->(o8 loc cap σ)[j]?=Wb Wc:=λj hj=>by unfold o8;rw[W3 (by simp;exact cW hj hm),Y3,Z7 (by exact cW hj hm)];rfl
 refine yf (n:=xs.length) (CI r t f xs H F' H1 D) ⟨F',H1,[],nil_,rfl,hD,Ext.refl x1.sub,(by rw[List.take_zero];rfl),(λh h z=>nomatch z),(λh h z=>nomatch z),.nil,.nil⟩ ?_ ?_ ?_ ?_ ?_
 ·rintro i ys H2 _ ⟨F1,G,p,N,rfl,_⟩;exact ae
 ·rintro i ys H2 hi ⟨F1,G,p,N,rfl,hG,x2,_⟩;exact W.go i _ (x2.ff.trans<|x2.sub.trans<|aE hG) hi
 ·rintro ys H2 ⟨F1,G,p,N,rfl,hG,x2,_⟩;exact W.stop _<|x2.ff.trans<|x2.sub.trans<|aE hG
 ·intro i ys H2 x H' hi zq y;obtain⟨F1,G,p,N,rfl,hG,x2,hp,sN,fN,nN,pr⟩:=zq;have sFH:=x2.sub.trans<|aE (o:=.lst ys) hG;obtain⟨F2,a,ha,x3,ra⟩:=W.yld i _ x H' F1 (x2.ff.trans sFH) hi y x2.ff sFH;have S3:SR C F2 (uH loc cap Γ) (o8 loc cap σ) H':=(((((S.grow x1).grow x2).comp hc).grow (Ext.newH x2.sub hG)).grow x3);obtain⟨p',b,h1,h2,h3,h4⟩:=uI e ha;rw[hp]at h1;cases h1;refine hg C F2 _ H' x a _ S3 ra λσ' S4 wk=>⟨wk sn,?_⟩;refine ht a C F2 σ' H' _ b S4 h2 λF3 H3 x4=>?_;cases b with
  |false =>
   have hB:H3 D=Wb (.lst ys):=(x3.trans x4).hh.kp D (.lst ys) trivial ae;have eq:aB H3 D (.lst ys)=H3:=by
    funext b;unfold aB;split
    ·rename_i z;rw[z];exact hB.symm
    ·rfl
   exact eq▸C3 hD hG x2 (x3.trans x4) (h4 rfl) (sN.trans<|x3.ff.trans x4.ff) fN nN pr
  |true =>
   obtain⟨c,h5,h6⟩:=h3 rfl;refine he a C F3 σ' H3 _ c (S4.grow x4) h5 λv Gi F4 H4 x5 si fi rv=>?_;have x6:=(x3.trans x4).trans x5;have disj:∀b u,N b=Wb u->Gi b=Wc:=λb u z=>by
    cases q:Gi b with
    |none=>rfl
    |some w =>have:=(x3.trans x4).sub b u ((x3.trans x4).ff b u (sN b u z));rw[fi b w q]at this;cases this
   have sNi:aL N (un Gi N):=λb u z=>by rw[un_r (disj b u z)];exact z
   have sGi:aL Gi (un Gi N):=λb u z=>un_l z;have hfree:∀b,H3 b=Wc->H b=Wc:=λb z=>by
    have z2:=(x3.trans x4).hh.free z;have n:b≠D:=by rintro rfl;rw[ae]at z2;cases z2
    rw[ah n]at z2;exact x1.hh.free<|x2.hh.free z2
   refine(oG (x6.hh.kp D (.lst ys) trivial ae) ?_<|C3 (M:=un Gi N) hD hG x2 x6 h6 (λb u z=>?_) (λb u z=>?_) ?_<|Paired.app (Paired.imp2 (λh h z=>r.mono sNi z) pr)<|.cons (r.mono sGi rv) .nil)
   ·have:=rg hp;rw[pr.length,V0];rw[List.length_take]at this;lia
   ·cases q:Gi b with
    |some w=>rw[un_l q]at z;cases z;exact si b _ q
    |none=>rw[un_r q]at z;exact x6.ff b u<|sN b u z
   ·cases q:Gi b with
    |some w=>exact hfree b<|fi b w q
    |none=>rw[un_r q]at z;exact fN b u z
   ·obtain⟨q,w,rfl,hq⟩:=tr rv;rw[K0];refine(oG nN (by simp) λy hy z hz=>?_);rw[Y0.mp hz];rintro rfl;obtain⟨j,hj⟩:=L6.mp hy;obtain⟨c',_,hc'⟩:=cY pr hj;obtain⟨q',w',e9,hq'⟩:=tr hc';cases e9;rw[disj q w' hq']at hq;cases hq
 ·rintro ys H2 ⟨F1,G,p,N,rfl,hG,x2,hp,sN,fN,nN,pr⟩;rw[List.take_length,e]at hp;cases hp;have hDH:H D=Wc:=x1.hh.free hD;have ND:N D=Wc:=by
   cases q:N D with
   |none=>rfl
   |some w=>have:=x2.sub D w<|sN D w q;rw[hG]at this;cases this
  refine k (.ref D) (aB N D<|.lst ys) (aB F1 D<|.lst ys) _ ((x1.trans x2).trans (Ext.new x2.sub hG)) (λb u z=>?_) (λb u z=>?_) ⟨D,ys,rfl,ae,nN,Paired.imp2 (λh h z=>r.mono (aE ND) z) pr⟩
  ·by_cases e:b=D
   ·subst e;rw[ae]at z ⊢;exact z
   ·rw[ah e]at z ⊢;exact sN b u z
  ·by_cases e:b=D
   ·subst e;exact hDH
   ·rw[ah e]at z;exact fN b u z
def uY{f:β->Option α}{Γt:β->List Slot}(tr:Thg r)(hi:IV Γ wi ox rb)(hc:(cap.map (·.2)).Nodup)(hm:m<=loc.length)(hg:GV (uH loc cap Γ) m g rb Γt)(he:∀x,nV (Γt x) te (f x) r):nV Γ (p6 wi loc cap g ye te) (ox.bind λxs=>Pu.comp f xs) (rLd r):=by
 have h:=xh (t:=λa=>Wb Wd) tr hi hc hm hg (λa=>yk) he;have e:(λxs=>bJ (λa=>Wb Wd) f xs)=λxs=>Pu.comp f xs:=by funext xs;unfold bJ Pu.comp;rw[uJ]
 rw[e]at h;exact h
def spG{τ:Type}(ra:RpA τ)(r:Rp α)(f:τ->Option α):Sp:=λvs H Q x=>∃F a c,aL F H/\NT F/\TbG H/\ra.rel F vs a/\f a=Wb c/\∀v G F' H',Ext F H F' H'->aL G F'->(∀b u,G b=Wb u->H b=Wc)->r.rel G v c->Q v H'
def finG(r:Rp α):Fc->α->Ends->Prop:=λC a D=>∀v G F H,Fr C F H->aL G F->(∀b u,G b=Wb u->C.H0 b=Wc)->r.rel G v a->D.rt v H
def m8(he:nV Γ te o r):BV Γ (lg te) o (finG r):=λC F σ H D x S e k=>he C F σ H _ x S e λv G F' H' x1 s1 f1 r1=>k v G F' H' (S.toFr.grow x1) s1 (λb u z=>S.keep.free<|f1 b u z) r1
end
end
section
variable [Kn:Kon]
abbrev rLL:Rp (List<|List Int):=rL<|rL a7
abbrev rNN:Rp (List<|List Int):=rLd<|rLn a7
end
section
section
variable {α:Type}
def xi:∀{us:List α},us.length=1->∃a,us=[a]:=λh=>List.length_eq_one_iff.mp h
def uZ{us:List α}(h:us.length=2):∃a1 a2,us=[a1,a2]:=by
 cases us with
 |nil=>cases h
 |cons a us =>obtain⟨a2,rfl⟩:=xi<|Nat.succ.inj h;exact⟨a,a2,rfl⟩
def zV{us:List α}(h:us.length=3):∃a1 a2 a3,us=[a1,a2,a3]:=by
 cases us with
 |nil=>cases h
 |cons a us =>obtain⟨a2,a3,rfl⟩:=uZ<|Nat.succ.inj h;exact⟨a,a2,a3,rfl⟩
def C4{us:List α}(h:us.length=4):∃a1 a2 a3 a4,us=[a1,a2,a3,a4]:=by
 cases us with
 |nil=>cases h
 |cons a us =>obtain⟨a2,a3,a4,rfl⟩:=zV<|Nat.succ.inj h;exact⟨a,a2,a3,a4,rfl⟩
def len5{us:List α}(h:us.length=5):∃a1 a2 a3 a4 a5,us=[a1,a2,a3,a4,a5]:=by
 cases us with
 |nil=>cases h
 |cons a us =>obtain⟨a2,a3,a4,a5,rfl⟩:=C4<|Nat.succ.inj h;exact⟨a,a2,a3,a4,a5,rfl⟩
end
variable [Kn:Kon]
section
variable {τ:Type}{ra:RpA τ}
section
variable {Γ:List Slot}{t:TA}{oτ:Option τ}
def iF{γ:Type}{q:Rp γ}{f:τ->Option γ}(h:EA Γ t oτ ra):nV Γ (lB (spG ra q f) [] E0 t) (oτ.bind f) q:=by intro C F σ H Q c S e k;obtain⟨a,e1,e⟩:=a8 e;exact h C F σ H _ a S e1 λvs F' H' x1 r1=>⟨F',a,c,x1.sub,x1.nt S.nt,x1.hh.tg S.tg,by rw[V2];exact r1,e,λv G F2 H2 x2 sG fG r2=>k v G F2 H2 (x1.trans x2) sG (λb u z=>x1.hh.free<|fG b u z) r2⟩
end
end
end
section
variable [Kn:Kon]
def v4(h:Paired (a7.rel F) vs xs):Paired ((b8 a7).rel F) vs (xs.map Wb):=by
 induction h with
 |nil=>exact .nil
 |cons r _ ih=>exact .cons r ih
def v5(h:EV Γ t o (rL a7)):EV Γ t (o.bind λxs=>Wb<|xs.map Wb) (rL<|b8 a7):=λC F σ H Q a S e k=>by obtain⟨xs,e1,e2⟩:=a8 e;cases e2;exact h C F σ H Q xs S e1 λv F' H' x ⟨p,vs,h1,h2,h3⟩=>k v F' H' x ⟨p,vs,h1,h2,v4 h3⟩
end
end L2

namespace Tab
open PySem Pu
structure Rise(t:U0):Prop where
 dum:t.dummies=#[]
 up:t.place.toList.Pairwise (·<·)
def qF(f m:Nat)(l:Bool):Rise (.fresh f m l):=⟨rfl,.nil⟩
def eO(t:U0)(n:Nat):Rise (t.standIn n):=⟨rfl,by
 show (Array.range n).toList.Pairwise (·<·);rw[Array.toList_range];exact J4⟩
def md{xs:Zr}(up:xs.toList.Pairwise (·<·))(hk:k<xs.size)(h:i<k):xs[i]'(fD h hk)<xs[k]:=by have:=List.pairwise_iff_getElem.mp up i k (fD h hk) hk h;simpa using this
def v6(up:xs.toList.Pairwise (·<·)):∀(f lo hi:Nat),lo<=hi->hi<=xs.size->hi-lo<=f ->
  (∀i (h:i<xs.size),i<lo->xs[i]<j)->(∀i (h:i<xs.size),hi<=i->j<=xs[i]) ->
  U9.go xs j f lo hi<=xs.size/\(∀i (h:i<xs.size),i<U9.go xs j f lo hi->xs[i]<j)/\∀i (h:i<xs.size),U9.go xs j f lo hi<=i->j<=xs[i]:=by
 intro f;induction f with
 |zero =>intro lo hi h1 h2 h3 a b;have e:hi=lo:=T9 (Nat.sub_eq_zero_iff_le.mp<|Nat.le_zero.mp h3) h1;subst e;exact⟨h2,a,b⟩
 |succ f ih =>
  intro lo hi h1 h2 h3 a b;unfold U9.go;by_cases hl:lo<hi
  ·rw[VP hl];have hm1:lo<=(lo+hi)/2:=by omega
   have hm2:(lo+hi)/2<hi:=by omega
   have hm:(lo+hi)/2<xs.size:=cW hm2 h2;have eg:xs.getD ((lo+hi)/2) j=xs[(lo+hi)/2]:=by simp[Array.getD,hm]
   simp only;rw[eg];by_cases hc:xs[(lo+hi)/2]<j
   ·rw[VP hc];refine ih _ _ hm2 h2 (by omega) (λi h hi'=>?_) b;rcases Nat.lt_or_eq_of_le (O9 hi') with q|q
    ·exact fD (md up hm q) hc
    ·subst q;exact hc
   ·rw[VQ hc];refine ih _ _ hm1 (cj hm) (by omega) a λi h hi'=>?_;rcases Nat.lt_or_eq_of_le hi' with q|q
    ·exact aO (Q6 hc)<|cj<|md up h q
    ·subst q;exact Q6 hc
  ·rw[VQ hl];have e:hi=lo:=T9 (Q6 hl) h1;subst e;exact⟨h2,a,b⟩
def im(up:xs.toList.Pairwise (·<·)):
  U9 xs j<=xs.size/\(∀i (h:i<xs.size),i<U9 xs j->xs[i]<j)/\∀i (h:i<xs.size),U9 xs j<=i->j<=xs[i] :=
 v6 up _ _ _ (U2 _) (bW _) (bW _) (λx x h=>VR h<|M6 _) λi h h'=>VR h'<|Nat.not_le.mpr h
def qG(up:xs.toList.Pairwise (·<·))(hk:k<xs.size):U9 xs (xs[k]+1)=k+1:=by
 obtain⟨h1,h2,h3⟩:=im (j:=xs[k]+1) up;rcases Nat.lt_trichotomy (U9 xs<|xs[k]+1) (k+1) with q|q|q
 ·exact VR (h3 k hk<|O9 q)<|Nat.not_succ_le_self _
 ·exact q
 ·have hk':k+1<xs.size:=cW q h1;exact VR (h2 (k+1) hk' q)<|W5.mpr<|md up hk'<|V3 k
def qH(up:xs.toList.Pairwise (·<·)):U9 xs 0=0:=by
 obtain⟨h1,h2,_⟩:=im (j:=0) up;rcases Nat.eq_zero_or_pos (U9 xs 0) with q|q
 ·exact q
 ·exact VR (h2 0 (cW q h1) q)<|M6 _
def nF(h:xs=#[])(j:Nat):U0.has xs j=We:=by subst h;rfl
def tz(r:Rise t)(h:t.slot j=.empty):∀x∈t.place.toList,x≠j:=by
 rintro x hx rfl;unfold U0.slot at h;obtain⟨k,hk,e⟩:=List.getElem_of_mem hx;have hk':k<t.place.size:=by simpa using hk
 have ek:t.place[k]=x:=by simpa using e
 obtain⟨h1,h2,h3⟩:=im (j:=x) r.up;have eb:U9 t.place x=k:=by
  rcases Nat.lt_trichotomy (U9 t.place x) k with q|q|q
  ·have:=h3 _ (fD q hk')<|bW _;exact VR (dM this<|md r.up hk' q) (by rw[ek];exact Q0 _)
  ·exact q
  ·exact VR (h2 k hk' q) (by rw[ek];exact Q0 _)
 simp only[eb]at h;rw[VP (by rw[U7 hk',ek];exact beq_self_eq_true _)]at h;cases h
def qI(r:Rise t)(j:Nat):t.slot j≠.dummy:=by
 intro h;unfold U0.slot at h;simp only at h;split at h
 ·cases h
 ·rw[nF r.dum,VQ Z3]at h;cases h
set_option tactic.hygienic true in
def v7(r:Rise t){f:Nat->Int}:∀(n:Nat) (p:U0.Probe) {j:Nat} {d:Option Nat},p.dummy=Wc->U0.probe.go t f h n p=Wb (.empty j d)->t.slot j=.empty/\d=Wc:=by
 intro n;induction n with
 |zero=>intro p j d _ e;cases e
 |succ n ih =>
  intro p j d hp e;unfold U0.probe.go at e;have adv:(t.advance p).dummy=Wc:=by
   unfold U0.advance;split
   ·exact hp
   ·exact hp
  split at e
  ·rename_i q;cases e;exact⟨q,hp⟩
  ·rename_i q;exact VR q<|qI r _
  ·split at e
   ·cases e
   ·exact ih _ adv e
set_option tactic.hygienic true in
def xj(r:Rise t)(e:t.freeSlot h=Wb x):t.slot x.1=.empty/\x.2=We:=by
 unfold U0.freeSlot U0.probe at e;split at e
 ·rename_i j d q;obtain⟨q1,rfl⟩:=v7 r _ _ rfl q;cases e;exact⟨q1,rfl⟩
 ·cases e
def v8(r:Rise t)(h:t.slot j=.empty):Rise (t.put j).1:=by
 refine⟨?_,?_⟩
 ·unfold U0.put;simp only;rw[nF r.dum,VQ Z3];exact r.dum
 ·unfold U0.put;simp only;rw[U0.toList_insertAt,List.pairwise_append];obtain⟨h1,h2,h3⟩:=im (j:=j) r.up;have ne:=tz r h;refine⟨r.up.sublist<|List.take_sublist _ _,List.pairwise_cons.mpr ⟨λx hx=>?_,r.up.sublist<|List.drop_sublist _ _⟩,λx hx y hy=>?_⟩
  ·obtain⟨i,hi,e⟩:=List.getElem_of_mem hx;rw[List.getElem_drop]at e;have hs:U9 t.place j+i<t.place.size:=by rw[List.length_drop,V5]at hi;omega
   have:=h3 _ hs<|R3 _ _;have e':t.place[U9 t.place j+i]=x:=by simpa using e
   rw[e']at this;exact G2 this λz=>ne x (List.mem_of_mem_drop hx) z.symm
  ·have hxj:x<j:=by
    obtain⟨i,hi,e⟩:=List.getElem_of_mem hx;rw[List.getElem_take]at e;rw[List.length_take,V5]at hi;have hs:i<t.place.size:=cW hi<|Nat.min_le_right _ _;have:=h2 i hs<|cW hi<|Nat.min_le_left _ _;have e':t.place[i]=x:=by simpa using e
    rw[e']at this;exact this
   rcases Y1.mp hy with q|q
   ·subst q;exact hxj
   ·obtain⟨i,hi,e⟩:=List.getElem_of_mem q;rw[List.getElem_drop]at e;have hs:U9 t.place j+i<t.place.size:=by rw[List.length_drop,V5]at hi;omega
    have:=h3 _ hs<|R3 _ _;have e':t.place[U9 t.place j+i]=y:=by simpa using e
    rw[e']at this;exact cW hxj this
set_option tactic.hygienic true in
def pK(r:Rise t)(es:Zv)(h:Int)(x:Wx):Rise (layNew t es h x).2.1/\(layNew t es h x).2.1.led=t.led:=by
 unfold layNew;split
 ·rename_i sl wd q;obtain⟨q1,_⟩:=xj r q;simp only;unfold U0.orStandIn;split
  ·exact⟨v8 r q1,rfl⟩
  ·exact⟨eO _ _,rfl⟩
 ·exact⟨eO _ _,rfl⟩
def tD(e:U0.laid m f v l p hs=Wb x):Rise x.1/\x.1.led=l:=by
 unfold U0.laid at e;cases q:U0.layClean m hs with
 |none=>rw[q]at e;cases e
 |some o =>
  rw[q]at e;cases e;refine⟨⟨rfl,?_⟩,rfl⟩;simp only;rw[P8];refine List.Pairwise.filterMap _ (λa a' h b hb b' hb'=>?_)<|J4 (n:=m+1);cases q1:o.getD a Wc with
  |none=>rw[q1]at hb;cases hb
  |some u=>cases q2:o.getD a' Wc with
   |none=>rw[q2]at hb';cases hb'
   |some u' =>rw[q1]at hb;rw[q2]at hb';cases hb;cases hb';exact h
set_option tactic.hygienic true in
def qJ(es:Zv)(n:Nat):Rise (relayAll t es n).2.1/\(relayAll t es n).2.1.led=t.led:=by
 unfold relayAll;split
 ·rename_i t' o q;simp only;split
  ·obtain⟨q1,q2⟩:=tD q;exact⟨q1,q2⟩
  ·exact⟨eO _ _,rfl⟩
 ·exact⟨eO _ _,rfl⟩
def kq{α:Type}{l:List α}(h:i<l.length):(l[i] ::l.eraseIdx i).Perm l:=by rw[List.eraseIdx_eq_take_drop_succ];exact List.perm_middle.symm.trans (by rw[<- List.drop_eq_getElem_cons h,List.take_append_drop])
def xk{α:Type}(next:ZE):∀(n k:Nat) (left:List α) (out:Array α),left.length=n->(pickOrder.go next n k left out).toList.Perm (out.toList++left):=by
 intro n;induction n with
 |zero =>intro k left out h;rw[List.length_eq_zero_iff.mp h,V2];exact .rfl
 |succ n ih =>
  intro k left out h;unfold pickOrder.go;have hl:next k%left.length<left.length:=Nat.mod_lt _ (by rw[h];exact Nat.succ_pos n)
  rw[Z7 hl];simp only;refine(ih (k+1) _ _ (by rw[List.length_eraseIdx_of_lt hl,h];rfl)).trans ?_;rw[Array.toList_push,F8,List.singleton_append];exact(kq hl).append_left _
def tE{α:Type}(next:ZE)(xs:Array α):(pickOrder next xs).toList.Perm xs.toList:=by
 have:=xk next xs.size 0 xs.toList #[] (by simp)
 unfold pickOrder;simpa using this
def dP:Wx->Int
 |.int n _=>n
 |_=>0
structure SetW(prog:W7)(w:WB)(o:Obj)(es:Zv)(ep:Nat)(t:U0)(ks:ZW):Prop where
 ex:o.ExactSet
 dat:o.data=.set es ep t
 el:ElemsOf (WQ prog w) es.toList
 pm:(es.toList.map λe=>dP e.2).Perm ks
 sz:es.size<WL
 fit:t.fits es.size=Wd
 led:t.led=!w.params.followText "set-order"
 ris:Rise t
def gd(prog:W7)(w:WB)(h:WD)(a:Wy)(ks:ZW):Prop:=∃o es ep t,h.get? a=Wb o/\SetW prog w o es ep t ks
section
variable {prog:W7}{w:WB}{A:WE}{E:ZU}{s:Ww}{a:Wy}{ks:ZW}{v:Int}{u:Tok}
def gd.stay(x:gd prog w h a ks)(k:∀o,h.get? a=Wb o->h'.get? a=Wb o):gd prog w h' a ks :=
 oq42 x λo es ep t h1 h2=>⟨o,es,ep,t,k o h1,h2⟩
def rE(h:ElemsOf (WQ prog w) es)(he:e∈es):∃n x,e.2=.int n x:=by obtain⟨⟨k,h1,_⟩,_⟩:=h e he;obtain⟨x,e1⟩:=Value.isInt_shape h1;exact⟨k,x,e1⟩
def zW(h:ElemsOf (WQ prog w) es)(k:Int):(∃e∈es,(WQ prog w).is k e.2=Wd)↔k∈es.map λe=>dP e.2:=by rw[U3];refine exists_congr λe=>and_congr_right λhe=>?_;obtain⟨n,x,q⟩:=rE h he;rw[q];show (Value.isInt k (.int n x)=Wd)↔n=k;simp[Value.isInt]
def rG{h:WD}(ho:h.get? a=Wb o)(x:SetW prog w o es ep t ks)(el:ElemsOf (WQ prog w) es'.toList)(pm:(es'.toList.map λe=>dP e.2).Perm ls)(sz:es'.size<WL)(fit:t'.fits es'.size=Wd)(led:t'.led=t.led)(r:Rise t'):
  (h.update a<|Obj.putSet es' t').get? a=Wb {o with data:=.set es' (ep+1) t'}/\SetW prog w {o with data:=.set es' (ep+1) t'} es' (ep+1) t' ls:=by
 have e:=putSet_of es' t' x.dat;have g:=P5 (Obj.putSet es' t') ho (by rw[e];rfl);rw[e]at g;exact⟨g,x.ex,rfl,el,pm,sz,fit,led.trans x.led,r⟩
def pL{b:Bool}{tag:String}{Q:Unit->Ww->Prop}(h:Q () s):Wz (WA prog w) A (match b with|true=>rule tag|false=>pure ()) Q E s:=by
 cases b
 ·exact Z8 h
 ·exact Vl h
def xl{Q:Zj}(x:gd prog w s.heap a ks)(room:ks.length+1<WL)(q:∀h' b,S8 a s.heap h'->gd prog w h' a (hJ ks v)->Q b {s with heap:=h'}):Wz (WA prog w) A (setAddHashed a (.int v u)<|hashInt v) Q E s:=by
 obtain⟨o,es,ep,t,ho,W⟩:=x;have hv:(WQ prog w).is v (.int v u)=Wd:=by show Value.isInt v (.int v u)=Wd;simp[Value.isInt]
 have any:(ks.any (·==v)=Wd)↔∃e∈es.toList,(WQ prog w).is v e.2=Wd:=by rw[zW W.el,W.pm.mem_iff];simp
 unfold setAddHashed setAddHashedIn;refine T7<|Z0<|F9 ho W.dat W.fit ?_;dsimp only;rw[byScan_of (knd:=WQ prog w) rfl W.sz W.el,VP rfl];unfold setAddByScan;refine Z0<|Z0<|Vl<|Z0<|wpAny_setScan_of (knd:=WQ prog w) hv ho W.dat W.fit W.el ?_;cases hr:es.toList.findIdx? (λe=>(WQ prog w).is v e.2) with
 |some j =>
  obtain⟨hj,hp,_⟩:=List.findIdx?_eq_some_iff_getElem.mp hr;have e:hJ ks v=ks:=by unfold hJ;rw[VP (any.mpr ⟨_,E9 hj,hp⟩)]
  have:=q s.heap We (S8.refl a s.heap) (by rw[e];exact⟨o,es,ep,t,ho,W⟩);exact Z8<|Z8 this
 |none =>
  have e:hJ ks v=ks++[v]:=by unfold hJ;rw[VQ];rw[any];rintro⟨z,hz,hp⟩;have:=List.findIdx?_eq_none_iff.mp hr z hz;rw[hp]at this;cases this
  rw[e]at q;dsimp only;have p1:=layNew_perm t es (hashInt v)<|.int v u;have f1:=layNew_fits t es (hashInt v)<|.int v u;obtain⟨r1,l1⟩:=pK W.ris es (hashInt v)<|.int v u;generalize layNew t es (hashInt v) (.int v u)=L at p1 f1 r1 l1 ⊢;obtain⟨es1,t1,wd,gv⟩:=L;dsimp only at p1 f1 r1 l1 ⊢;rw[Array.toList_push]at p1;have el1:ElemsOf (WQ prog w) es1.toList:=(W.el.push (k:=v) hv rfl).perm p1;have CV:(es1.toList.map λe=>dP e.2).Perm (ks++[v]):=by have:=p1.map λe=>dP e.2;rw[M8]at this;exact this.trans<|W.pm.append_right _
  have xi:es1.size=ks.length+1:=by
   have:=CV.length_eq
   rwa [Z5,X4,V5]at this
  have sz1:es1.size<WL:=by rw[xi];exact room
  refine Z0<|pL ?_;split
  rotate_left
  all_goals
   try rw[hashByValue_scannable 8 rfl]
   refine Z0<|Z8 ?_;simp only[plainKind,if_true];obtain⟨g1,W1⟩:=rG ho W el1 CV sz1 f1 l1 r1;refine Z0<|wpAny_storeSet_of ho W.dat ?_<|Vc sz1;have k1:=Q3 s.heap a<|Obj.putSet es1 t1;split
   ·have p2:=relayAll_perm t1 es1<|U0.grown es1.size;have f2:=relayAll_fits t1 es1<|U0.grown es1.size;obtain⟨r2,l2⟩:=qJ (t:=t1) es1<|U0.grown es1.size;generalize relayAll t1 es1 (U0.grown es1.size)=L at p2 f2 r2 l2 ⊢;obtain⟨es2,t2,gw⟩:=L;dsimp only at p2 f2 r2 l2 ⊢;have uZ:es2.size=es1.size:=by rw[<- V5,p2.length_eq,V5]
    have sz2:es2.size<WL:=by rw[uZ];exact sz1
    obtain⟨g2,W2⟩:=rG g1 W1 (el1.perm p2) ((p2.map λe=>dP e.2).trans CV) sz2 f2 l2 r2;refine Z0<|pL ?_;refine Z0<|wpAny_storeSet_of g1 rfl ?_<|Vc sz2;exact Z8<|Z8<|q _ _ (k1.trans<|Q3 _ a _) ⟨_,_,_,_,g2,W2⟩
   ·exact Z8<|Z8<|q _ _ k1 ⟨_,_,_,_,g1,W1⟩
end
def bP:Slot "set_iterator" "__next__" "set_iterator.__next__":=.of (owner:="set_iterator") (n:="__next__") (by rw[typeLookup_type,builtinLookup_eq_fast];kernel_rfl) (by decide +kernel) (by decide +kernel) (by decide +kernel) (by first|exact .inl (by decide +kernel)|exact .inr (by decide +kernel)) (by rw[isSubtype_type];kernel_rfl)
def pN:Slot "set_iterator" "__iter__" "set_iterator.__iter__":=.of (owner:="set_iterator") (n:="__iter__") (by rw[typeLookup_type,builtinLookup_eq_fast];kernel_rfl) (by decide +kernel) (by decide +kernel) (by decide +kernel) (by first|exact .inl (by decide +kernel)|exact .inr (by decide +kernel)) (by rw[isSubtype_type];kernel_rfl)
def j4:entryFor table "set_iterator.__next__"=Wb Q7.«set_iterator.__next__»:=entryFor_of_tree (by kernel_rfl)
def xm:entryFor table "set_iterator.__iter__"=Wb Q7.«dict_keyiterator.__iter__»:=entryFor_alias (id':="dict_keyiterator.__iter__") (by kernel_rfl) rfl (by decide +kernel) (by kernel_rfl)
def xn:entryFor table "set.__iter__"=Wb Q7.«frozenset.__iter__»:=entryFor_alias (id':="frozenset.__iter__") (by kernel_rfl) rfl (by decide +kernel) (by kernel_rfl)
def va:Manifest.owners.lookup (String.ofList ['r','o','t','a','r','e','t','i','_','t','e','s'].reverse)=Wb Manifest.sig_set_iterator:=by kernel_rfl
def j5(a:Wx):argsOk "set_iterator.__next__" ⟨[a],[]⟩:=by unfold argsOk;rw[signature?_of (id:="set_iterator.__next__") (n:=['_','_','t','x','e','n','_','_']) (o:=['r','o','t','a','r','e','t','i','_','t','e','s']) (by kernel_rfl) va];kernel_rfl
def xo(a:Wx):argsOk "set_iterator.__iter__" ⟨[a],[]⟩:=by unfold argsOk;rw[signature?_of (id:="set_iterator.__iter__") (n:=['_','_','r','e','t','i','_','_']) (o:=['r','o','t','a','r','e','t','i','_','t','e','s']) (by kernel_rfl) va];kernel_rfl
def fu(h:WD)(I a:Wy)(f0:Wx)(i n ep:Nat):Prop:=∃o,h.get? I=Wb o/\o.cls=.type "set_iterator"/\o.data=.fields #[f0,.int i 0,.ref a,.int n 0,.int ep 0]
section
variable {prog:W7}{w:WB}{A:WE}{E:ZU}{s:Ww}{a I:Wy}{ks:ZW}{o:Obj}{es:Zv}{ep i n:Nat}{t:U0}{f0:Wx}
def fu.ty(x:fu s.heap I a f0 i n ep):s.TypeIs (.ref I) "set_iterator":=oF x λo h1 h2 b=>⟨o,h1,h2⟩
def fu.stay(x:fu h I a f0 i n ep)(k:∀o,h.get? I=Wb o->h'.get? I=Wb o):fu h' I a f0 i n ep:=bN x λo h1 h2=>⟨o,k o h1,h2⟩
def pO{Q:ZU}(x:fu s.heap I a f0 i n ep)(q:Q (.ref I) s):Wz (WA prog w) A (pyIter<|.ref I) Q E s:=by refine wpAny_pyIter_slot x.ty pN<|O3 pN x.ty xm ?_<|xo _;show Wz _ _ (ret<|.ref I) _ _ s;exact Z8 ⟨_,rfl,_,_,x.ty,bP.lookup,q⟩
def gV(prog:W7)(w:WB)(a:Wy)(slot i ep:Nat)(r:Option (Wx×Nat))(s:Ww):Prop :=
 ∀(A:WE) (E:ZU) (Q:Option (Wx×Nat)->Ww->Prop),Q r s->Wz (WA prog w) A (setNext a slot i ep) Q E s
def xp{slot nx:Nat}{Q:Zl}(y:fu s.heap I a (.int slot 0) i n ep)(ho:s.heap.get? a=Wb o)(W:SetW prog w o es ep t ks)(hn:es.size=n)(nxt:gV prog w a slot i ep (Wb (x,nx)) s)(q:∀h',fu h' I a (.int nx 0) (i+1) n ep->S8 I s.heap h'->Q (Wb x) {s with heap:=h'}):Wz (WA prog w) A (WU<|.ref I) Q E s:=by obtain⟨ob,h1,h2,h3⟩:=id y;unfold WU;refine Z0<|Vg<|D1 (name:=F7 "__next__") y.ty bP<|O3 bP y.ty j4 ?_<|j5 _;show Wz _ _ (fieldsOf (.ref I) >>= _) _ _ s;refine Z0<|Vn h1 h3 ?_;show Wz _ _ (setEntries a >>= _) _ _ s;refine Z0<|E6 ho W.dat W.fit ?_;rw[VQ (by rw[hn];simp)];show Wz _ _ (setNext a slot i ep >>= _) _ _ s;refine Z0<|nxt _ _ _ ?_;dsimp only;refine Z0<|WP h1 h3 (by simp) ?_;have u1:=P5 (Obj.mapFields (·.setIfInBounds 0 (WG nx))) h1<|Obj.isFreed_of_fields<|N2 h3 _;have d1:=N2 h3 (·.setIfInBounds 0 (WG nx));refine Z0<|WP u1 d1 (by simp)<|Z8 ⟨x,rfl,Z8<|q _ ?_<|(Q3 ..).trans (Q3 ..)⟩;exact⟨_,P5 _ u1<|Obj.isFreed_of_fields<|N2 d1 _,(Obj.cls_mapFields ..).trans ((Obj.cls_mapFields ..).trans h2),by rw[N2 d1];simp[WG]⟩
def pP{Q:Zl}{C:Sem PySem.Fin}(hh:A.handled=Wc)(hC:C=newExc (.type "StopIteration") [] >>= λe=>raiseNew e)(q:∀h',(∀b o,s.heap.get? b=Wb o->h'.get? b=Wb o)->Q Wc {s with heap:=h'}):
  Wz (WA prog w) A.in1 C (λx x=>False) (λe s'=>Wz (WA prog w) A (isInstance e (.type "StopIteration") >>= λb=>if b=Wd then pure Wc else throw e) Q E s') s:=by
 subst hC;refine Z0 ?_;unfold newExc newTuple;refine Z0<|O6 ?_ (by size_fits);refine Z0 (m:=firstArgMember _ _)<|wpAny_of_eq (a:=.none) (by first|rfl|(unfold firstArgMember;rfl))<|O6 ?_ (by size_fits);unfold raiseNew;refine Z0<|wpAny_handled ?_;rw[show A.in1.handled=Wc from hh];refine Z0<|Z8<|wpAny_throw<|Z0 ?_;refine wpAny_isInstance (b:=Wd) (T:="StopIteration") ⟨_,Y7 _ rfl,rfl⟩ isSubtype_stop ?_;exact Z8 (q _ λb o e=>Z2 _<|Z2 _ e)
def zX{slot:Nat}{Q:Zl}(hh:A.handled=Wc)(y:fu s.heap I a (.int slot 0) i n ep)(ho:s.heap.get? a=Wb o)(W:SetW prog w o es ep t ks)(hn:es.size=n)(nxt:gV prog w a slot i ep Wc s)(q:∀h',(∀b o,b≠I->s.heap.get? b=Wb o->h'.get? b=Wb o)->Q Wc {s with heap:=h'}):Wz (WA prog w) A (WU<|.ref I) Q E s:=by obtain⟨ob,h1,h2,h3⟩:=id y;unfold WU;refine Z0<|Vg<|D1 (name:=F7 "__next__") y.ty bP<|O3 bP y.ty j4 ?_<|j5 _;show Wz _ _ (fieldsOf (.ref I) >>= _) _ _ s;refine Z0<|Vn h1 h3 ?_;show Wz _ _ (setEntries a >>= _) _ _ s;refine Z0<|E6 ho W.dat W.fit ?_;rw[VQ (by rw[hn];simp)];show Wz _ _ (setNext a slot i ep >>= _) _ _ s;refine Z0<|nxt _ _ _ ?_;dsimp only;refine Z0<|WP h1 h3 (by simp) ?_;refine T8 (pP (s:={s with heap:=s.heap.update I (Obj.mapFields (·.setIfInBounds 2 .none))}) (Q:=Q) (E:=E) hh rfl λh' k=>q h' λb o' hb e=>k b o'<|(Q3 s.heap I _).extBut b o' hb e) (λx x z=>z.elim) λe s' z=>?_;exact z
def xq{p:Nat}{Q:Zl}(y:fu s.heap I a (.ref T) i n ep)(ho:s.heap.get? a=Wb o)(W:SetW prog w o es ep t ks)(hn:es.size=n)(hT:s.heap.get? T=Wb oT)(dT:oT.data=.seq ps m)(hp:ps[i]?=Wb (.int p tk))(hx:es[p]?=Wb x)(q:∀h',fu h' I a (.ref T) (i+1) n ep->S8 I s.heap h'->Q (Wb x.2) {s with heap:=h'}):Wz (WA prog w) A (WU<|.ref I) Q E s:=by obtain⟨ob,h1,h2,h3⟩:=id y;unfold WU;refine Z0<|Vg<|D1 (name:=F7 "__next__") y.ty bP<|O3 bP y.ty j4 ?_<|j5 _;show Wz _ _ (fieldsOf (.ref I) >>= _) _ _ s;refine Z0<|Vn h1 h3 ?_;show Wz _ _ (setEntries a >>= _) _ _ s;refine Z0<|E6 ho W.dat W.fit ?_;rw[VQ (by rw[hn];simp)];show Wz _ _ (seqItems? (.ref T) >>= _) _ _ s;refine Z0<|G4 hT dT ?_;simp only[W4,hp];refine Z0 ?_;unfold setNextDrawn;refine Z0<|F9 ho W.dat W.fit ?_;dsimp only;rw[VQ (by simp),hx];refine Z8 ?_;refine Z0<|WP h1 h3 (by simp)<|Z8 ⟨_,rfl,Z8<|q _ ?_<|Q3 ..⟩;exact⟨_,P5 _ h1<|Obj.isFreed_of_fields<|N2 h3 _,(Obj.cls_mapFields ..).trans h2,by rw[N2 h3];simp[WG]⟩
def zY{Q:Zl}(hh:A.handled=Wc)(y:fu s.heap I a (.ref T) i n ep)(ho:s.heap.get? a=Wb o)(W:SetW prog w o es ep t ks)(hn:es.size=n)(hT:s.heap.get? T=Wb oT)(dT:oT.data=.seq ps m)(hp:ps[i]?=Wc)(q:∀h',(∀b o,b≠I->s.heap.get? b=Wb o->h'.get? b=Wb o)->Q Wc {s with heap:=h'}):Wz (WA prog w) A (WU<|.ref I) Q E s:=by obtain⟨ob,h1,h2,h3⟩:=id y;unfold WU;refine Z0<|Vg<|D1 (name:=F7 "__next__") y.ty bP<|O3 bP y.ty j4 ?_<|j5 _;show Wz _ _ (fieldsOf (.ref I) >>= _) _ _ s;refine Z0<|Vn h1 h3 ?_;show Wz _ _ (setEntries a >>= _) _ _ s;refine Z0<|E6 ho W.dat W.fit ?_;rw[VQ (by rw[hn];simp)];show Wz _ _ (seqItems? (.ref T) >>= _) _ _ s;refine Z0<|G4 hT dT ?_;simp only[W4,hp];refine Z0<|WP h1 h3 (by simp) ?_;have u1:=P5 (Obj.mapFields (·.setIfInBounds 0 (WG 0))) h1<|Obj.isFreed_of_fields<|N2 h3 _;have d1:=N2 h3 (·.setIfInBounds 0 (WG 0));refine Z0<|WP u1 d1 (by simp) ?_;refine T8 (pP (s:={s with heap:=(s.heap.update I<|Obj.mapFields (·.setIfInBounds 0 (WG 0))).update I (Obj.mapFields (·.setIfInBounds 2 .none))}) (Q:=Q) (E:=E) hh rfl λh' k=>q h' λb o' hb e=>k b o'<|((Q3 s.heap I _).trans (Q3 _ I _)).extBut b o' hb e) (λx x z=>z.elim) λe s' z=>?_;exact z
end
section
variable {prog:W7}{w:WB}{A:WE}{E:ZU}{s:Ww}{a I:Wy}{ks:ZW}{o:Obj}{es:Zv}{ep i n:Nat}{t:U0}
def j6{Q:Zj}(q:Q (w.params.followText "set-order") s):Wz (WA prog w) A setsByText Q E s:=by unfold setsByText;exact Z0<|Vw<|Z8 q
def xr(ho:s.heap.get? a=Wb o)(W:SetW prog w o es ep t ks)(hb:w.params.followText "set-order"=Wd):
  gV prog w a slot i ep (((pickOrder (w.params.setOrder a ep) es)[i]?).map λe=>(e.2,slot)) s:=by
 intro A E Q q;unfold setNext;refine Z0<|F9 ho W.dat W.fit ?_;dsimp only;refine Z0<|j6 ?_;rw[hb,VP rfl,VQ (by simp)];refine Z0 ?_;unfold setWalk;refine Z0<|F9 ho W.dat W.fit ?_;dsimp only;refine Z0<|j6 ?_;rw[hb,VP rfl];exact Z0<|Vw<|Z8<|Z8 q
def xt(ho:s.heap.get? a=Wb o)(W:SetW prog w o es ep t ks)(hb:w.params.followText "set-order"=We)(hp:(!t.plain&&decide (es.size > 1))=We)(hk:U9 t.place slot=i)(hi:i<=es.size):
  gV prog w a slot i ep ((es[i]?).map λe=>(e.2,t.place.getD i 0+1)) s:=by
 intro A E Q q;have hl:t.led=Wd:=by rw[W.led,hb];rfl
 have sz:t.place.size=es.size:=by have:=W.fit;unfold U0.fits at this;simp only[N3,beq_iff_eq]at this;exact this.1
 unfold setNext;refine Z0<|F9 ho W.dat W.fit ?_;dsimp only;refine Z0<|j6 ?_;rw[hb,VQ Z3];show Wz _ _ (if (!t.plain&&decide (es.size > 1))=Wd then _ else _) _ _ _;rw[hp,VQ Z3];show Wz _ _ ((if (!t.led&&!es.isEmpty)=Wd then _ else _) >>= _) _ _ _;rw[hl,VQ (by simp)];refine Z0<|Z8 ?_;refine Z8 ?_;rw[hk];rcases Nat.lt_or_eq_of_le hi with z|z
 ·have z':i<t.place.size:=by rw[sz];exact z
  have g:t.place.getD i 0=t.place[i]:=by simp[Array.getD,z']
  rw[g]at q;rw[U7 z]at q ⊢;rw[U7 z'];exact q
 ·subst z;rw[D8 (bW _)]at q ⊢;exact q
def xu(ord:Zv)(i:Nat)(v:Wx):Prop:=∃e,ord[i]?=Wb e/\v=e.2
def vc(hh:A.handled=Wc)(Wr:a≠I)(W:SetW prog w o es ep t ks)(sl:ZE)(ord:Zv)(hs:ord.size=es.size)(nx:∀i (s:Ww),i<=es.size->s.heap.get? a=Wb o->gV prog w a (sl i) i ep (ord[i]?.map λe=>(e.2,sl (i+1))) s):
  WalksS prog w A I [I,a] [I] (λx y=>y=x) es.size (xu ord) (λi s=>fu s.heap I a (.int (sl i) 0) i es.size ep/\s.heap.get? a=Wb o) where
 sub:=λb hb=>by rw[Y0.mp hb];exact Y5
 grefl:=λh=>rfl
 gtrans:=λh h h h1 h2=>h2.trans h1
 frame:=λi s h' h st h k=>⟨st.1.stay λo e=>k I Y5 o e,k a (Y8 _ Y5) _ st.2⟩
 item:=λi s Q E hi st hQ=>by
  have hi':i<ord.size:=by rw[hs];exact hi
  have:=nx i s (cj hi) st.2;rw[U7 hi',Option.map_some]at this;refine xp st.1 st.2 W rfl this λh' y k=>hQ _ _ ⟨_,U7 hi',rfl⟩ ⟨y,k.extBut _ _ Wr st.2⟩ ⟨λb o' hb e=>k.extBut b o' (λz=>hb (by rw[z];exact Y0.mpr rfl)) e,rfl,rfl,rfl,bW _⟩
 done:=λs Q E st hQ=>by have:=nx es.size s (bW _) st.2;rw[D8 (bK hs),Option.map_none]at this;exact zX hh st.1 st.2 W rfl this λh' k=>hQ _ ⟨λb o' hb e=>k b o' (λz=>hb (by rw[z];exact Y0.mpr rfl)) e,rfl,rfl,rfl,bW _⟩
 self:=λi s Q E st q=>pO st.1 q
def xv{ps:ZT}(hh:A.handled=Wc)(Wr:a≠I)(hnT:T≠I)(W:SetW prog w o es ep t ks)(ord:Zv)(hs:ord.size=es.size)(dT:oT.data=.seq (ps.map λ(p:Nat)=>WG p).toArray m)(hps:ps.length=es.size)(hord:∀i (h:i<ps.length),es[ps[i]]?=ord[i]?):
  WalksS prog w A I [I,a,T] [I] (λx y=>y=x) es.size (xu ord) (λi s=>fu s.heap I a (.ref T) i es.size ep/\s.heap.get? a=Wb o/\s.heap.get? T=Wb oT) where
 sub:=λb hb=>by rw[Y0.mp hb];exact Y5
 grefl:=λc=>rfl
 gtrans:=λc c c h1 h2=>h2.trans h1
 frame:=λi s h' c st c k=>⟨st.1.stay λo e=>k I Y5 o e,k a (Y8 _ Y5) _ st.2.1,k T (Y8 _<|Y8 _ Y5) _ st.2.2⟩
 item:=λi s Q E hi st hQ=>by
  have hi':i<ord.size:=by rw[hs];exact hi
  have hi2:i<ps.length:=by rw[hps];exact hi
  have e1:(ps.map λ(p:Nat)=>WG p).toArray[i]?=Wb (.int (ps[i]:Nat) 0):=by rw[List.getElem?_toArray,Y3,Z7 hi2];rfl
  refine xq (x:=ord[i]) st.1 st.2.1 W rfl st.2.2 dT e1 ((hord i hi2).trans (U7 hi')) λh' y k=>hQ _ _ ⟨_,U7 hi',rfl⟩ ⟨y,k.extBut _ _ Wr st.2.1,k.extBut _ _ hnT st.2.2⟩ ⟨λb o' hb e=>k.extBut b o' (λz=>hb (by rw[z];exact Y0.mpr rfl)) e,rfl,rfl,rfl,bW _⟩
 done:=λs Q E st hQ=>by refine zY hh st.1 st.2.1 W rfl st.2.2 dT ?_ λh' k=>hQ _ ⟨λb o' hb e=>k b o' (λz=>hb (by rw[z];exact Y0.mpr rfl)) e,rfl,rfl,rfl,bW _⟩;rw[List.getElem?_toArray,T0 (by rw[Z5,hps];exact bW _)]
 self:=λi s Q E st q=>pO st.1 q
def vd{Q:Nat->Ww->Prop}(hn:n≠0)(q:∀i d',i<n->Q i {s with drawn:=d'}):Wz (WA prog w) A (choose src n) Q E s:=by intro Γ p _;unfold choose;rw[Sem.wp_choose];exact⟨hn,q _ _<|Nat.mod_lt _<|Nat.pos_of_ne_zero hn⟩
def ve{α:Type}:∀(n:Nat) (xs:List α) (s:Ww) {Q:List α->Ww->Prop},xs.length=n->(∀ys d',ys.Perm xs->Q ys {s with drawn:=d'})->Wz (WA prog w) A (drawOrder n xs) Q E s:=by
 intro n;induction n with
 |zero =>intro xs s Q h q;unfold drawOrder;exact Z8<|q [] s.drawn (by rw[List.length_eq_zero_iff.mp h])
 |succ n ih =>
  intro xs s Q h q;cases xs with
  |nil=>cases h
  |cons x xs =>unfold drawOrder;refine Z0 (vd (by rw[h];exact Nat.succ_ne_zero n) λi d' hi=>?_);rw[Z7 hi];dsimp only;refine Z0 (ih _ _ (by rw[List.length_eraseIdx_of_lt hi,h];rfl) λys d2 hy=>?_);exact Z8<|q _ _<|(hy.cons _).trans (kq hi)
def vg{α:Type}[Inhabited α]{es:Array α}:∀{ps:ZT},(∀p∈ps,p<es.size)->ps.filterMap (λp=>es[p]?)=ps.map λp=>es.getD p default
 |[],_=>rfl
 |p ::ps,h=>by have hp:p<es.size:=h p Y5;rw[List.filterMap_cons_some (U7 hp),V7,vg λq hq=>h q<|Y8 _ hq];simp[Array.getD,hp]
def vh{Q:ZU}(hh:A.handled=Wc)(x:gd prog w s.heap a ks)(q:∀h' d' I fp ord St,(∀b o,s.heap.get? b=Wb o->h'.get? b=Wb o)->s.heap.objs.size<=I->(∀b∈fp,b=a\/s.heap.objs.size<=b)->WalksS prog w A I fp [I] (λx y=>y=x) ks.length (xu ord) St->St 0 {s with heap:=h',drawn:=d'} ->
   ord.size=ks.length->(∀e∈ord.toList,∃n u,e.2=.int n u)->(ord.toList.map λe=>dP e.2).Perm ks->Q (.ref I) {s with heap:=h',drawn:=d'}):
  Wz (WA prog w) A (pyIter<|.ref a) Q E s:=by
 obtain⟨o,es,ep,t,ho,W⟩:=x;have hT:s.TypeIs (.ref a) "set":=⟨o,ho,W.ex.1⟩;have hal:a<s.heap.objs.size:=Y4 ho;have len:es.size=ks.length:=by
  have:=W.pm.length_eq
  rwa [Z5,V5]at this
 refine wpAny_pyIter_slot hT F.slot_set_iter<|O3 F.slot_set_iter hT xn ?_<|F.args_set_iter_1 _;unfold Q7.«frozenset.__iter__»;refine Z0 (m:=Q7.Frozenset.slot0 _ _)<|Z8 ?_;refine Z0 (m:=Q7.Frozenset.sizeOf _)<|Z0<|E6 ho W.dat W.fit<|Z8 ?_;refine Z0 (m:=setDrawn _) ?_;unfold setDrawn;refine Z0<|F9 ho W.dat W.fit ?_;dsimp only;refine Z0<|j6<|Z8 ?_;have zIs:∀{l:Zv},l.toList.Perm es.toList->∀e∈l.toList,∃n u,e.2=.int n u:=λp e he=>rE W.el<|p.mem_iff.mp he;have pks:∀{l:Zv},l.toList.Perm es.toList->(l.toList.map λe=>dP e.2).Perm ks:=λp=>(p.map _).trans W.pm;have lks:∀{l:Zv},l.toList.Perm es.toList->l.size=es.size:=λp=>by rw[<- V5,p.length_eq,V5]
 have plainly:∀(sl:ZE) (ord:Zv),sl 0=0->ord.toList.Perm es.toList ->
   (∀i (s:Ww),i<=es.size->s.heap.get? a=Wb o->gV prog w a (sl i) i ep (ord[i]?.map λe=>(e.2,sl (i+1))) s) ->
   Q (.ref s.heap.objs.size) {s with heap:=s.heap.push {cls:=.type "set_iterator",data:=.fields #[.int 0 0,.int 0 0,.ref a,.int es.size 0,.int ep 0]}}:=by
  intro sl ord h0 hp nx;have Wr:a≠s.heap.objs.size:=eP hal;have wk:=vc (A:=A) (I:=s.heap.objs.size) hh Wr W sl ord (lks hp) nx;refine q _ s.drawn _ _ ord _ (λb o' e=>Z2 _ e) (bW _) (λb hb=>?_) (len▸wk) ⟨?_,Z2 _ ho⟩ ((lks hp).trans len) (zIs hp)<|pks hp
  ·rcases Y1.mp hb with z|z
   ·exact .inr<|bK z.symm
   ·exact .inl<|Y0.mp z
  ·exact⟨_,Y7 _ rfl,rfl,by rw[h0,<- len];rfl⟩
 cases hb:w.params.followText "set-order" with
 |true =>rw[VQ (by simp)];refine Z0<|Z8 ?_;refine Z0<|Vq ho W.dat W.fit ?_;refine Z0<|O6<|Z8 ⟨_,rfl,"set_iterator",_,⟨_,Y7 _ rfl,rfl⟩,bP.lookup,?_⟩;exact plainly (λc=>0) _ rfl (tE (w.params.setOrder a ep) es) λi s' c h'=>xr h' W hb
 |false =>
  show Wz _ _ (if (!false&&(!t.plain&&decide (es.size > 1)))=Wd then _ else _) _ _ _;by_cases hp:(!t.plain&&decide (es.size > 1))=Wd
  ·rw[VP (show (!false&&(!t.plain&&decide (es.size > 1)))=Wd by rw[hp];rfl)];refine Z0 (ve _ _ _ X1 λps d' hps=>?_);have lps:ps.length=es.size:=hps.length_eq.trans X1;refine Z0<|wpAny_newTuple ?_ (by rw[Z5,lps];exact Vc W.sz);refine Z0<|Vq (Z2 _ ho) W.dat W.fit ?_;refine Z0<|O6<|Z8 ⟨_,rfl,"set_iterator",_,⟨_,Y7 _ rfl,rfl⟩,bP.lookup,?_⟩;have lt:∀p∈ps,p<es.size:=λp h=>R4.mp<|hps.mem_iff.mp h;have pm:(ps.filterMap λp=>es[p]?).Perm es.toList:=by
    have:=hps.filterMap λp=>es[p]?
    rwa [filterMap_getElem?_range]at this
   have em:ps.filterMap (λp=>es[p]?)=ps.map λp=>es.getD p default:=vg lt;have Wr:a≠(s.heap.push {cls:=.type "tuple",data:=.seq (ps.map λ(p:Nat)=>WG p).toArray}).objs.size:=by rw[N6];exact eP<|T6 hal
   have hnT:s.heap.objs.size≠(s.heap.push {cls:=.type "tuple",data:=.seq (ps.map λ(p:Nat)=>WG p).toArray}).objs.size:=by rw[N6];exact eP<|V3 _
   have hp':(ps.filterMap λp=>es[p]?).toArray.toList.Perm es.toList:=pm;have wk:=xv (A:=A) (prog:=prog) (w:=w) (T:=s.heap.objs.size) (oT:={cls:=.type "tuple",data:=.seq (ps.map λ(p:Nat)=>WG p).toArray}) (m:=0) hh Wr hnT W (ps.filterMap λp=>es[p]?).toArray (lks hp') rfl lps λi h=>by have:=lt _<|E9 h;rw[em];simp[Array.getD,this,h]
   refine q _ d' _ _ _ _ (λb o' e=>Z2 _<|Z2 _ e) (by rw[N6];exact R6 _) (λb hb=>?_) (len▸wk) ⟨?_,Z2 _<|Z2 _ ho,Z2 _<|Y7 _ rfl⟩ ((lks hp').trans len) (zIs hp')<|pks hp'
   ·rcases Y1.mp hb with z|z
    ·rw[z,N6];exact .inr<|R6 _
    ·rcases Y1.mp z with z|z
     ·exact .inl z
     ·exact .inr<|bK (Y0.mp z).symm
   ·exact⟨_,Y7 _ rfl,rfl,by rw[<- len];rfl⟩
  ·rw[VQ (show ¬ ((!false&&(!t.plain&&decide (es.size > 1)))=Wd) by rw[Bool.not_false,Bool.true_and];exact hp)];refine Z0<|Z8 ?_;refine Z0<|Vq ho W.dat W.fit ?_;refine Z0<|O6<|Z8 ⟨_,rfl,"set_iterator",_,⟨_,Y7 _ rfl,rfl⟩,bP.lookup,?_⟩;refine plainly (λi=>if i=0 then 0 else t.place.getD (i-1) 0+1) es rfl .rfl λi s' hi h'=>?_;have sz:t.place.size=es.size:=by have:=W.fit;unfold U0.fits at this;simp only[N3,beq_iff_eq]at this;exact this.1
   have hk:U9 t.place (if i=0 then 0 else t.place.getD (i-1) 0+1)=i:=by
    cases i with
    |zero=>exact qH W.ris.up
    |succ i =>
     have hi':i<t.place.size:=by rw[sz];exact hi
     rw[VQ (Nat.succ_ne_zero i),Nat.add_sub_cancel,show t.place.getD i 0=t.place[i] by simp[Array.getD,hi']];exact qG W.ris.up hi'
   exact xt h' W hb (Bool.not_eq_true _▸hp) hk hi
end
section
variable {prog:W7}{w:WB}{A:WE}{E:ZU}{s:Ww}{a I:Wy}{ks:ZW}
def vi{Q:Zj}(hT:s.TypeIs (.ref a) "set")(q:Q We s):Wz (WA prog w) A (Q7.List.listLengthHint<|.ref a) Q E s:=by
 unfold Q7.List.listLengthHint;refine Z0<|Vj hT F.slot_set_len.lookup ?_;generalize hid:("set.__len__":String)=id0
 wp_delta
 rw[show splitId id0=Wb ("set","__len__") from by subst hid;decide +kernel];subst hid;refine Z0<|wpAny_isInstance (b:=Wd) (T:="set") hT (by rw[isSubtype_type];kernel_rfl) ?_;refine wpAny_ite_split (λz=>VR z (by decide)) λx=>wpAny_ite_split (λx=>Z0<|wpAny_typeOf hT<|Z8 q) λz=>VR (by decide +kernel) z
def qK{R:Vr->Ww->Prop}{L:Wy}{res:Wx}{c:Nat}(hh:A.handled=Wc)(x:gd prog w s.heap a ks)(hLa:L≠a)(hL:s.heap.get? L=Wb {cls:=.type "list",data:=.seq #[] c})(q:∀h' d' tk Wo c',(∀b o,b≠L->s.heap.get? b=Wb o->h'.get? b=Wb o)->h'.get? L=Wb {cls:=.type "list",dict:=Wc,data:=.seq Wo c',slots:=#[]}->(∀v∈Wo.toList,∃n u,v=.int n u)->(Wo.toList.map dP).Perm ks->R (.ok<|.ret res) {s with heap:=h',drawn:=d',toks:=tk}):
  Wz (WA prog w) A.in1 (Q7.List.listExtendWith (.ref L) (.ref a) res) (λfin s'=>match fin with|.done f=>R (.ok f) s'|.again c'=>c'.quiet=Wd/\D4 (WA prog w) A c' R s') (λe s'=>R (.error e) s') s:=by
 have hT:s.TypeIs (.ref a) "set":=oq42 x λo h h h h1 h2=>⟨o,h1,h2.ex.1⟩;have hn:ks.length<=W0:=by obtain⟨_,es,_,_,_,W⟩:=x;rw[<- W.pm.length_eq,Z5,V5];exact Vc W.sz
 have same:Q7.List.listSameRef (.ref L) (.ref a)=We:=by simp[Q7.List.listSameRef,hLa]
 unfold Q7.List.listExtendWith;refine Z0<|wpAny_typeOf hT ?_;rw[same];simp only[show (Value.type "set"==Value.type "list")=We by decide,show (Value.type "set"==Value.type "tuple")=We by decide,Bool.or_false,Q9,if_false];refine Z0 (vh (A:=A.in1) hh x λh' d' I fp ord St k hI hfp wk st ho hi hp=>?_);have hT':Shared.TypeIs {s with heap:=h',drawn:=d'} (.ref a) "set":=bN hT λo h1 h2=>⟨o,k a o h1,h2⟩;have hLI:L∉fp:=λz=>by
  rcases hfp L z with z|z
  ·exact hLa z
  ·exact VR (Y4 hL)<|W5.mpr z
 refine Z0<|T7<|vi hT' ?_;refine wpAny_ite_split (λh=>?_) λz=>VR (by decide +kernel) z;have u0:=k _ _ hL;have u1:=P5 (X0 (·.push .none)) u0 rfl;have u2:=P5 (X0 (·.pop)) u1 rfl;have oth:∀b o,b≠L->h'.get? b=Wb o->((h'.update L<|X0 (·.push .none)).update L (X0 (·.pop))).get? b=Wb o :=
  λb o hb e=>((Q3 h' L _).trans (Q3 _ L _)).extBut b o hb e
 have st':=wk.frame 0 _ ((h'.update L<|X0 (·.push .none)).update L (X0 (·.pop))) s.toks st (bW _) λb hb o e=>oth b o (λz=>hLI<|z▸hb) e;refine Z0<|Vl<|Z0 ?_;refine Z0 (m:=updateSeq L _)<|J0 u0 rfl<|J0 (hz:=by seq_fits) u1 rfl ?_;refine Z8 ⟨N1 F.plain_extend_loop _,codeAny_extend_loopS wk hn L hLI res ks.length 0 _ #[] _ rfl (U2 _) st' u2 (ItemsOf.nil _) λs' Wo c' hm hL' hacc=>?_⟩;have el:Wo.toList=ord.toList.map (·.2):=by
  apply N0;intro i;rw[Y3,R5,R5];by_cases hi:i<Wo.size
  ·obtain⟨e,h1,h2⟩:=hacc.2 i _<|U7 hi;rw[U7 hi,h1,h2];rfl
  ·rw[D8 (Q6 hi),D8 (by rw[ho,<- hacc.1];exact Q6 hi)];rfl
 obtain⟨hp',g',d2,tk',os'⟩:=s';have eg:g'=s.gens:=hm.gens;have ed:d2=d':=hm.drawn;have eo:os'=s.os:=hm.os;subst eg ed eo;refine q hp' _ tk' Wo c' (λb o hb e=>hm.heap b o (λz=>?_)<|oth b o hb<|k b o e) hL' (λv hv=>?_) ?_
 ·rcases Y1.mp z with z|z
  ·exact hb z
  ·exact VR (Y4 e) (by rw[Y0.mp z];exact W5.mpr hI)
 ·rw[el]at hv;obtain⟨e,h1,rfl⟩:=U3.mp hv;exact hi e h1
 ·rw[el,V4];exact hp
def pQ{R:Zh}(hh:A.handled=Wc)(x:gd prog w s.heap a ks)(q:∀h' d' tk vs,(∀b o,s.heap.get? b=Wb o->h'.get? b=Wb o)->(∀v∈vs,∃n u,v=.int n u)->(vs.map dP).Perm ks->R vs {s with heap:=h',drawn:=d',toks:=tk}):Wz (WA prog w) A (collect<|.ref a) R E s:=by
 have hal:a<s.heap.objs.size:=oq42 x λh h h h h1 h=>Y4 h1;unfold collect;refine Z0<|wpAny_runValue<|P2 F.entry_proto_collect ?_;rw[R0 F.plain_proto_collect _];show Wz _ A.in1 (newList [] >>= λl=>again<|.builtin "list.__iadd__" ⟨[l,.ref a],[]⟩) _ _ s;refine Z0<|O6<|Z8 ⟨N1 F.plain_list_iadd _,P2 F.entry_list_iadd ?_⟩;rw[R0 F.plain_list_iadd _];show Wz _ A.in1 (Q7.List.listExtendWith (.ref s.heap.objs.size) (.ref a)<|.ref s.heap.objs.size) _ _ _;have go:∀(r:Vr) (s':Ww),(∃h' d' tk Wo c',r=.ok (.ret<|.ref s.heap.objs.size)/\s'={s with heap:=h',drawn:=d',toks:=tk}/\(∀b o,s.heap.get? b=Wb o->h'.get? b=Wb o)/\h'.get? s.heap.objs.size=Wb {cls:=.type "list",dict:=Wc,data:=.seq Wo c',slots:=#[]}/\(∀v∈Wo.toList,∃n u,v=.int n u)/\(Wo.toList.map dP).Perm ks) ->
   ∃v,r=.ok (.ret<|.ref v)/\∃Wo c',s'.heap.get? v=Wb {cls:=.type "list",dict:=Wc,data:=.seq Wo c',slots:=#[]}/\R Wo.toList s':=by
  rintro r s' ⟨h',d',tk,Wo,c',rfl,rfl,k1,k2,k3,k4⟩;exact⟨_,rfl,Wo,c',k2,q h' d' tk _ k1 k3 k4⟩
 have key:=qK (A:=A) (s:={s with heap:=s.heap.push {cls:=.type "list",data:=.seq ([]:List Wx).toArray}}) (L:=s.heap.objs.size) (res:=.ref s.heap.objs.size) (c:=0)
  (R:=λr s'=>∃h' d' tk Wo c',r=.ok (.ret<|.ref s.heap.objs.size)/\s'={s with heap:=h',drawn:=d',toks:=tk}/\(∀b o,s.heap.get? b=Wb o->h'.get? b=Wb o)/\h'.get? s.heap.objs.size=Wb {cls:=.type "list",dict:=Wc,data:=.seq Wo c',slots:=#[]}/\(∀v∈Wo.toList,∃n u,v=.int n u)/\(Wo.toList.map dP).Perm ks)
  hh (x.stay λo e=>Z2 _ e) (O2 hal) (Y7 _ rfl) λh' d' tk Wo c' k1 k2 k3 k4=>⟨h',d',tk,Wo,c',rfl,rfl,λb o e=>k1 b o (eP<|Y4 e)<|Z2 _ e,k2,k3,k4⟩
 refine T8 key (λfin s' z=>?_) λe s' z=>?_
 ·cases fin with
  |done f =>obtain⟨h',d',tk,Wo,c',e,z⟩:=z;cases e;obtain⟨v,e1,ac,cc,e2,e3⟩:=go _ _ ⟨h',d',tk,Wo,c',rfl,z⟩;cases e1;exact Z0<|wpAny_load e2<|Z8 e3
  |again c1 =>refine⟨z.1,D5 z.2 λr s2 y=>?_⟩;obtain⟨v,rfl,ac,cc,e2,e3⟩:=go _ _ y;exact Z0<|wpAny_load e2<|Z8 e3
 ·obtain⟨_,_,_,_,_,e',_⟩:=z;cases e'
end
open PyProof.Rows
abbrev fZ(w:WB):Obj:={cls:=.type "set",dict:=Wc,data:=.set #[] 0 (.fresh 0 0<|!w.params.followText "set-order")}
section
variable {prog:W7}{w:WB}{A:WE}{E:ZU}{s:Ww}{a l:Wy}
def xw(e:h.get? a=Wb (fZ w)):gd prog w h a [] :=
 ⟨_,#[],0,_,e,⟨rfl,rfl,rfl⟩,rfl,λx h=>by simp at h,.nil,by decide,rfl,rfl,qF _ _ _⟩
def vj{q:ZU}(h:q (.ref s.heap.objs.size) {s with heap:=s.heap.push (fZ w)}):
  D4 (WA prog w) A (.call (.builtin "set.__new__") ⟨[.type "set",x],[]⟩) (wants q E) s:=by
 refine codeAny_of_tree ?_;show Wz _ A.in1 (checkBuiltinCall "set.__new__" ⟨[.type "set",x],[]⟩ >>= λa=>again<|.builtin "set.__new__" ⟨[.type "set",x],[]⟩) _ _ s;refine Z0<|wpAny_of_eq (F.newCall_set_1 x)<|Z8 ⟨N1 F.plain_set_new _,P2 F.entry_set_new ?_⟩;rw[R0 F.plain_set_new _];unfold Q7.«set.__new__» Q7.Frozenset.newClass;have sub1:=sub_set_self;obtain⟨h0,g0,d0,t0,o0⟩:=s;dsimp only
 wp_walk
 refine Vw<|Z8 ?_;unfold newObj;exact Z0<|wpAny_alloc<|Z8<|Z8 h
def vk{R:Vr->Ww->Prop}{G:Array GenState->Array GenState->Prop}{P:Nat->Wx->Prop}{St:Nat->Ww->Prop}(wk:WalksS prog w A.in1 I fp wr G n P St)(hf:a∉fp)(val:Nat->Int)(hval:∀i v,P i v->∃t,v=.int (val i) t)(hb:n+1<WL):
  ∀(k i:Nat) (s:Ww),n-i=k->i<=n->St i s->gd prog w s.heap a (VE val i)->(∀s',Moved (a ::wr) G s s'->gd prog w s'.heap a (VE val n)->R (.ok<|.ret .none) s') ->
   D4 (WA prog w) A (.builtin "set.update.loop" ⟨[.ref a,.ref I],[]⟩) R s:=by
 have hw:a∉wr:=λz=>hf<|wk.sub _ z;have sb:∀b∈wr,b∈a ::wr:=λb z=>Y8 _ z;intro k;induction k with
 |zero =>intro i s hk hi st x q;have e:i=n:=T9 hi<|Nat.sub_eq_zero_iff_le.mp hk;subst e;refine P2 F.entry_set_update_loop ?_;rw[R0 F.plain_set_update_loop _];show Wz _ A.in1 (WU (.ref I) >>= _) _ _ s;refine Z0 (wk.done s _ _ st λs' hm=>?_);exact Z8<|q s' (hm.mono sb) (x.stay λo e=>hm.heap a o hw e)
 |succ k ih =>
  intro i s hk hi st x q;have hlt:i<n:=Nat.lt_of_sub_eq_succ hk;refine P2 F.entry_set_update_loop ?_;rw[R0 F.plain_set_update_loop _];show Wz _ A.in1 (WU (.ref I) >>= _) _ _ s;refine Z0 (wk.item i s _ _ hlt st λv s' hP st' hm=>?_);obtain⟨t,rfl⟩:=hval i v hP;show Wz _ A.in1 (WM [P3 (val i) t] (setAdd a<|.int (val i) t) >>= _) _ _ s';refine Z0<|T7 ?_;unfold setAdd;have hv:(WQ prog w).is (val i) (.int (val i) t)=Wd:=by show Value.isInt (val i) (.int (val i) t)=Wd;simp[Value.isInt]
  refine T7<|Z0<|(WQ prog w).pyHash hv ?_;have x':gd prog w s'.heap a (VE val i):=x.stay λo e=>hm.heap a o hw e;have room:(VE val i).length+1<WL:=dM (Nat.succ_le_succ<|aO (firstMet_length_le val i) hi) hb;refine xl (s:={s' with toks:=s'.toks+1}) x' room λh' b sm x2=>?_;have x3:gd prog w h' a (VE val<|i+1):=by rw[firstMet_succ];exact x2
  refine Z8 ⟨N1 F.plain_set_update_loop _,ih (i+1) _ (by omega) hlt (wk.frame _ s' _ _ st' (R6 _) λb hb o e=>?_) x3 λs2 hm2 y=>q s2 (Moved.trans wk.gtrans ((hm.mono sb).then_heap (R6 _) λb o hb e=>?_) hm2) y⟩
  ·rw[sm.2 b fun z:b=a=>hf<|z▸hb];exact e
  ·rw[sm.2 b fun z:b=a=>hb<|z▸Y5];exact e
def vm{Q:ZU}(hh:A.handled=Wc)(hl:s.heap.IsList l items)(hi:L4 items.toList ns)(hb:items.size+1<WL)(q:∀(h':WD) (tk:Nat),gd prog w h' s.heap.objs.size (VE (λi=>ns.getD i 0) items.size)->(∀b o,b<s.heap.objs.size->s.heap.get? b=Wb o->h'.get? b=Wb o)->Q (.ref s.heap.objs.size) {s with heap:=h',toks:=tk}):
  Wz (WA prog w) A (call (.type "set") [.ref l]) Q E s:=by
 obtain⟨c,tl,f1⟩:=D9.mro;have f2:=D9.made;have f3:=D9.sub;have f4:=D9.notType;have f5:=D9.canCreate;have f6:=F.typeCall_set_1<|.ref l;refine wpAny_call<|codeAny_of_tree ?_;show Wz _ _ (callAny (.type "set") _) _ _ _;refine Z8 ⟨Code.quiet_builtin _ (by decide +kernel),P2 F.entry_type_call ?_⟩;rw[Around.under_plain (weight_type_call_type "set" [.ref l] []) rfl]
 repeat (any_goals (first|assumption|wp_step))
 refine D5 (vj (x:=.ref l) (E:=E) (q:=λob s1=>ob=.ref s.heap.objs.size/\s1={s with heap:=s.heap.push (fZ w)}) ⟨rfl,rfl⟩) λr s1 hr=>?_;cases r with
 |error e=>exact hr
 |ok fl =>
  cases fl with
  |ret ob =>
   obtain⟨rfl,rfl⟩:=hr;have g0:(s.heap.push<|fZ w).get? s.heap.objs.size=Wb (fZ w):=Y7 _ rfl;have hT:Shared.TypeIs {s with heap:=s.heap.push (fZ w)} (.ref s.heap.objs.size) "set":=⟨_,g0,rfl⟩;have f7:=D9.init.lookup;have f8:=D9.init.bind (.ref s.heap.objs.size)
   repeat (any_goals (first|assumption|wp_step))
   refine D5 (codeAny_call_builtin (R:=wants (λr s2=>r=.none/\∃h' tk,s2={s with heap:=h',toks:=tk}/\gd prog w h' s.heap.objs.size (VE (λi=>ns.getD i 0) items.size)/\(∀b o,b<s.heap.objs.size->s.heap.get? b=Wb o->h'.get? b=Wb o)) E) D9.init.plain F.entry_set_init<|check_set_init_1 hT ?_) λr2 s2 hr2=>?_
   ·obtain⟨ol,hol,hcl,nl,hdl⟩:=hl;obtain⟨ocl,odi,oda,osl⟩:=ol;simp only at hcl hdl;subst hcl hdl;have hol':(s.heap.push<|fZ w).get? l=Wb {cls:=.type "list",dict:=odi,data:=.seq items nl,slots:=osl}:=Z2 _ hol;have l1:(s.heap.push<|fZ w).IsList l items:=⟨_,hol',rfl,nl,rfl⟩;have f9:=F.sub_list_set;have fa:=F.sub_list_frozenset;have fb:(Value.type "list"==Value.type "dict")=We:=by decide
    have hlS:l<s.heap.objs.size:=Y4 hol;unfold Q7.«set.__init__» noKeywords Q7.Frozenset.updateFrom;generalize hPI:pyIter=PI
    wp_walk
    subst hPI;refine Vb l1<|Z0<|wpAny_runValue ?_;have Wr:l≠(s.heap.push<|fZ w).objs.size:=by rw[N6];exact eP<|T6 hlS
    have hSf:s.heap.objs.size∉[(s.heap.push<|fZ w).objs.size,l]:=by rw[N6,Y1,Y0];exact λz=>z.elim (λz=>eP (V3 _) z) λz=>O2 hlS z
    have val:∀(i:Nat) (v:Wx),items[i]?=Wb v->∃t,v=.int ((λi=>ns.getD i 0) i) t:=λi v z=>L4.int_at hi i v (by rw[R5];exact z);refine vk ((Walks.list (by rw[A.in1_handled];simp[hh]) _ l Wr items).toS) hSf (λi=>ns.getD i 0) val hb (items.size-0) 0 _ rfl (U2 _) ⟨⟨_,Y7 _ rfl,rfl,rfl⟩,l1.push _⟩ (xw<|Z2 _ g0) ?_;intro s' hm y;obtain⟨h',g',d',tk',os'⟩:=s';have eg:g'=s.gens:=hm.gens;have ed:d'=s.drawn:=hm.drawn;have eo:os'=s.os:=hm.os;subst eg ed eo;refine Z8<|Z8 ⟨rfl,h',tk',rfl,y,λb o hb e=>hm.heap b o (λz=>?_)<|Z2 _<|Z2 _ e⟩;rcases Y1.mp z with z|z
    ·exact eP hb z
    ·rw[Y0,N6]at z;exact eP (T6 hb) z
   ·cases r2 with
    |error e=>exact hr2
    |ok f2 =>
     cases f2 with
     |ret r =>
      obtain⟨rfl,h',tk,rfl,y1,y2⟩:=hr2
      repeat (any_goals (first|assumption|wp_step))
      exact q _ _ y1 y2
     |_=>exact hr2.elim
  |_=>exact hr.elim
end
end Tab

namespace L2
open Pu
section
open PySem PySem.Spec PyProof.Rows
variable [Kn:Kon]
section
variable {X:Cx}{K:Z1}
abbrev vn(P:W7)(w:WB)(q:Wy)(ks:ZW):HO:=.ext λh=>Tab.gd P w h q ks
def rSetW(P:W7)(w:WB)(K:Z1):List V->Hp->VK->Prop:=λxs H Q=>∃p ns,xs=[.ref p]/\dj K H p (ns.map V.int)/\ns.length+1<4096/\∀q,H q=Wc->Q (.ref q) (aB H q<|vn P w q<|oA ns)
def zZ(h:X.K=K)(hc:X.calm=Wd):eG X (.type "set") (rSetW X.prog X.w K):=by
 subst h;intro ZY s σ H xs us Q I r hh;obtain⟨p,ns,rfl,hS,hb,q⟩:=hh;obtain⟨u,rfl,ru⟩:=vals1 r;cases ru;obtain⟨Wj,rv,ht,hz⟩:=I.list hS;have hl:=rv.length;rw[Z5]at hl;have ed:VE (λi=>ns.getD i 0) Wj.toArray.size=oA ns:=by
  unfold VE;have:(Z9 Wj.toArray.size).map (λi=>ns.getD i 0)=ns:=by
   apply List.ext_getElem
   ·simp[hl]
   ·intro i h1 h2;simp[h2]
  rw[this];rfl
 refine Tab.vm (I.ok.hd hc) ht.isList (by simpa using iZ rv) (by simp;have:WL=4096:=rfl;omega) λh' tk hset hk=>?_;rw[ed]at hset;exact⟨.ref _,_,I.laid (t':=tk) (o:=vn X.prog X.w s.heap.objs.size<|oA ns) (λb ob q=>hk b ob (Y4 q) q) (bW _) ⟨hset,(oq42 hset λo x x x e x=>⟨o,e⟩),λx x z e=>z.stay e⟩,rfl,q _<|I.hok.fresh<|bW _⟩
def A0{σ:St}(I:Inv X ZY σ H s)(d:Drawn):Inv X ZY σ H {s with drawn:=d}:=⟨I.ok,I.os,I.bare,I.base,I.loc,I.cell,I.free,I.freeC,I.pin,I.hok,I.len⟩
def C5(P:W7)(w:WB):List V->Hp->VK->Prop:=λxs H Q=>∃p ks,xs=[.ref p]/\H p=Wb (vn P w p ks)/\ks.length<64/\∀q,H q=Wc->Q (.ref q) (aB H q<|.lst<|(lX ks).map V.int)
def ints_of_all:∀{vs:ZO},(∀v∈vs,∃n u,v=P3 n u)->L4 vs (vs.map Tab.dP)
 |[],_=>.nil
 |v ::vs,h=>by obtain⟨n,u,rfl⟩:=h v Y5;exact .cons n u (ints_of_all λw hw=>h w<|Y8 _ hw)
def xx(hc:X.calm=Wd):eG X (.builtin "sorted") (C5 X.prog X.w):=by
 intro ZY s σ H xs us Q I r hh;obtain⟨p,ks,rfl,hD,ZQ,q⟩:=hh;obtain⟨u,rfl,ru⟩:=vals1 r;cases ru;have hset:Tab.gd X.prog X.w s.heap p ks:=(show bA X.prog X.w H s.heap p (vn X.prog X.w p ks) from I.hok p _ hD).1;refine Calls.call_function_entry kind_sorted VN VO (args_sorted1 _) ?_;unfold Q7.«sorted»;refine Z0 (m:=checkCount "sorted" 1 1 _)<|Z8 ?_;refine Z0 (Tab.pQ (A:=X.A.in1) (I.ok.hd hc) hset λh' d' tk vs hk hi hp=>?_);have I1:=A0 (I.kept (t':=tk) hk) d';have hlen:vs.length=ks.length:=by have:=hp.length_eq;rwa [Z5]at this
 have hI:=ints_of_all hi;refine Z0<|E3 ?_ (by rw[hlen,V0];exact cj<|fD ZQ (by decide));have hoL:(h'.push<|VB "list" vs.toArray 0).get? h'.objs.size=Wb (VB "list" vs.toArray 0):=Y7 _ rfl;refine Z0 (T7 (O3 VH ⟨_,hoL,rfl⟩ VG
  (list_sort_tree (s:={s with heap:=h'.push<|VB "list" vs.toArray 0,drawn:=d',toks:=tk}) hoL hI (by exact dM (bK hlen) ZQ) λout ns' a1 a2 a3=>⟨_,rfl,?_⟩) (args_list_sort _)))
 have e:ns'=lX ks:=PySem.W.ksm_same (a2.trans<|hp.trans (cO ks).symm) a3<|eV ks;subst e;obtain⟨e1,hat1⟩:=sortedHeap_at (out:=out) hoL;refine Z8 ⟨_,rfl,.ref _,_,I1.laid (t':=tk) (o:=.lst<|(lX ks).map V.int) (λb ob q=>?_) (bW _) ⟨?_,out.toList,e1,iD a1,hat1⟩,rfl,q _<|I1.hok.fresh<|bW _⟩
 ·have hlt:b<h'.objs.size:=Y4 q;rw[sortedHeap_old (eP hlt) (by rw[VF];exact T6 hlt)];exact Z2 _ q
 ·rw[Z5,(cO ks).length_eq,V0];exact cj<|fD ZQ (by decide)
end
def rZW(P:W7)(w:WB):Rp (List Int):=⟨λH v xs=>∃p,v=.ref p/\H p=Wb (vn P w p xs),λe ⟨p,h1,h2⟩=>⟨p,h1,e _ _ h2⟩⟩
section
variable {Γ:List Slot}{ta:TE}{K:Z1}{P:W7}{w:WB}{o:Zi}
set_option tactic.hygienic true in
def ev_setW(h:EV Γ ta o (rL a7)):EV Γ (qV (rSetW P w K)<|aK ta bL) (o.bind λxs=>uO xs) (rZW P w):=by
 intro C F σ H Q c S e k;obtain⟨xs,e1,e⟩:=a8 e;unfold uO at e;split at e
 ·rename_i hh;cases e;refine h C F σ H _ xs S e1 λv F' H' x1 ⟨p,vs,e3,h1,h2⟩=>⟨p,xs,by rw[e3],?_,hh,λq hq=>k _ _ _ (x1.trans<|Ext.new x1.sub hq) ⟨q,rfl,ae⟩⟩;rw[<- dE h2];exact .inl<|x1.sub.rd h1
 ·cases e
set_option tactic.hygienic true in
def A1(h:EV Γ ta o (rZW P w)):iR Γ (qV (C5 P w)<|aK ta bL) (o.bind λns=>sortI ns) a7:=by
 intro C F σ H Q xs S e k;obtain⟨ns,e1,e⟩:=a8 e;unfold sortI at e;split at e
 ·rename_i ZQ;cases e;exact h C F σ H _ ns S e1 λv F' H' x1 ⟨p,e2,h1⟩=>⟨p,ns,by rw[e2],x1.sub _ _ h1,ZQ,λq hq=>k q _ F' H' x1 hq<|paired_ints _⟩
 ·cases e
end
end
open PySem PySem.Spec PyProof.Rows
section
variable {X:Cx}{ZY:ZN}{σ:St}{H:Hp}{s:Ww}{a:Wy}{u u':HO}
def Inv.swp(I:Inv X ZY σ H s)(h:H a=Wb u)(h1:∀xs,u≠.tup xs)(h2:∀ps,u≠.tbl ps)(h3:∀x,u≠.own x)(hz:∀o v,X.H₀ a≠Wb (.frz o v))(new:bA X.prog X.w (aB H a u') s.heap a u'):Inv X ZY σ (aB H a u') s:=by
 have ne:∀b,H b=Wc->b≠a:=λb e=>(ag h e).symm;have no:∀b o,H b=Wb o->o≠u->aB H a u' b=Wb o:=λb o e n=>(ah λ(z:b=a)=>n<|Z4<|e.symm.trans<|z▸h).trans e;refine⟨I.ok,I.os,I.bare,⟨I.base.keep,I.base.slot,λb o e n hx=>(ah<|ne b<|I.base.free b o e n hx).trans (I.base.free b o e n hx),I.base.there,λb xs e=>no b _ (I.base.tups b xs e) λz=>h1 xs z.symm,λb o v e=>(ah λ(z:b=a)=>hz o v<|z▸e).trans (I.base.frzs b o v e),λb ps e=>?_⟩,I.loc,I.cell,(ah<|ne _ I.free).trans I.free,λx c e=>(ah<|ne _<|I.freeC x c e).trans (I.freeC x c e),λp hp=>?_,λb o e=>?_,I.len⟩
 ·refine k0 (I.base.tbls b ps e) λm z=>⟨m,no b _ z λy=>h2 _ y.symm⟩
 ·have z:=I.pin p hp;exact⟨z.1,(ah<|ne _ z.2.1).trans z.2.1,z.2.2⟩
 ·by_cases eb:b=a
  ·subst eb;rw[ae]at e;cases e;exact new
  ·rw[ah eb]at e;exact(I.hok b o e).stay (λi i i q=>q) (λc q=>no c _ q λy=>h3 _ y.symm) λc xs q=>no c _ q λy=>h1 _ y.symm
def C6{P:W7}{w:WB}{h:WD}{ws:List (Key×V)}(x:bA P w H h a (.dK ws)):∃o es ep,h.get? a=Wb o/\o.data=.dict es ep:=by obtain⟨_,_,vs,_,o,es,ep,e,c,d,_⟩:=x;exact⟨o,es,ep,e,d⟩
end
def tFz(t:TS):TS:=λD σ H=>∃a ws,H a=Wb (.dK ws)/\∀o,t {nx:=λσ' H'=>H' a=Wb (.frz o<|.dK ws)/\D.nx σ' (aB H' a<|.dK ws),rt:=λx x=>False} σ (aB H a<|.frz o<|.dK ws)
def ps_fz{X:Cx}{st:WH}{t:TS}(h:PS X st t):PS X st (tFz t):=by
 rintro ZY s σ H D I ⟨a,ws,ha,q⟩;have ok:=I.hok a _ ha;obtain⟨o,es,ep,ho,hd⟩:=C6 ok;have hz:∀o v,X.H₀ a≠Wb (.frz o v):=λo v z=>nomatch (I.base.frzs a o v z).symm.trans ha;have I1:Inv X ZY σ (aB H a<|.frz o<|.dK ws) s:=I.swp ha nofun nofun nofun hz ⟨ho,ok⟩;refine bI (h ZY s σ _ _ I1<|q o) λf s1 z=>?_;cases f with
 |next=>exact k7 z λσ' H' I2 e z=>⟨σ',_,I2.swp (u':=.dK ws) e nofun nofun nofun hz (show bA X.prog X.w H' s1.heap a (.dK ws) from (I2.hok a _ e).2),z⟩
 |brk=>exact oq22 (p:=λσ' H'=>Inv X ZY σ' H' s1) z λx x x z=>z.elim
 |cont=>exact oq22 (p:=λσ' H'=>Inv X ZY σ' H' s1) z λx x x z=>z.elim
 |ret u=>exact oq33 z λv σ' H' x x z=>z.elim
def Itd(a:Wy)(o:Obj)(ws:List (Key×V)):It :=
 ⟨λi H=>H a=Wb (.frz o<|.dK ws)/\∃n v,ws[i]?=Wb (.inl n,v),λi H x H'=>H'=H/\∃n v,ws[i]?=Wb (.inl n,v)/\x=.int n,λi H=>H a=Wb (.frz o<|.dK ws)/\ws.length<=i⟩
def C7{P:W7}{w:WB}{H:Hp}{h:WD}{a:Wy}{o:Obj}{ws:List (Key×V)}{es:Array O1}{ep:Nat}(x:bA P w H h a (.frz o<|.dK ws))(hd:o.data=.dict es ep):(a==G0)=We/\∃vs,KV ws vs/\h.DictAt (bi P w) a vs ep:=by
 obtain⟨ho,_,lo,vs,kv,o',es',ep',e1,e2,e3,e4⟩:=x;have e:o'=o:=Z4<|e1.symm.trans ho;subst e;have e5:ep'=ep:=by rw[e3]at hd;injection hd
 subst e5;exact⟨lo,vs,kv,o',es',e1,e2,e3,e4⟩
def A2{P:W7}{w:WB}{K:Z1}{tg:WC}{o:Obj}{ws:List (Key×V)}{es:Array O1}{ep:Nat}(a it:Wy)(hd:o.data=.dict es ep):Turn P w K tg (Itd a o ws) [it] it (λi h=>h.IsKeyIter it a i ws.length ep) where
 mem:=by simp
 obj:=λi h st b hb=>by
  have e:b=it:=by simpa using hb
  subst e;obtain⟨o,e,c,d⟩:=st;exact⟨o,e,λv z=>by rw[d]at z;cases z⟩
 keep:=λi h h' st k=>oF st λo e c d=>⟨o,k it (by simp) o e,c,d⟩
 item:=by intro X hP hw hK hc i ZY s σ H E I hf st hg;subst hP hw hK;obtain⟨ha,n,v,hn⟩:=hg;obtain⟨lo,vs,kv,hat⟩:=C7 (I.hok a _ ha) hd;have hl:=kv.length;obtain⟨y,e1,e2,e3⟩:=cY kv hn;obtain⟨f0,f1,f2,f3,f4,f5⟩:=hf it (by simp);rw[hl]at st ⊢;refine wpAny_pyNext_dict_item (k:=y.1) (v:=y.2) st hat e1 λkey h' hk st' sb=>?_;have I1:Inv X ZY σ H {s with heap:=h'}:=I.turned (t':=s.toks) (λb o hb e=>(sb.2 b hb).trans e) f0 f1 f3 f4 f5;have e4:y.1=.inl n:=e2.symm;rw[e4]at hk;obtain⟨t,e7⟩:=Value.isInt_shape (k:=n) (v:=key) hk;obtain⟨o,e,c,d⟩:=id st';exact⟨key,rfl,AH (s:={s with heap:=h'}) e c d (by decide) ⟨.int n,H,I1,⟨t,e7⟩,⟨rfl,n,v,hn,rfl⟩,st',λb hb=>(hf b hb).1⟩⟩
 done:=by intro X hP hw hK hc i ZY s σ H E I hf st hg;subst hP hw hK;obtain⟨ha,hn⟩:=hg;obtain⟨lo,vs,kv,hat⟩:=C7 (I.hok a _ ha) hd;have hl:=kv.length;obtain⟨f0,f1,f2,f3,f4,f5⟩:=hf it (by simp);rw[hl]at st hn;exact wpAny_pyNext_dict_end (I.ok.hd hc) st hat (List.getElem?_eq_none_iff.mpr hn) λh' eb=>⟨rfl,I.turned (t':=s.toks) (λb o hb e=>eb b o hb e) f0 f1 f3 f4 f5⟩
 self:=λx x x x x st h=>wpAny_pyIter_keyiter st h
def iDict(tl:TE):TI:=λσ H R=>tl σ H λx H1=>∃a o ws,x=.ref a/\H1 a=Wb (.frz o<|.dK ws)/\R (Itd a o ws) H1
def pi_dict{X:Cx}{tg l:WC}{tl:TE}(hl:PE X l tl):PI X tg l (iDict tl):=by
 intro ZY s σ H R I h;refine bI (hl ZY s σ H _ I h) λv s1 ⟨x,H1,I1,r1,q1⟩=>?_;obtain⟨a,o,ws,rfl,ha,q⟩:=q1;cases r1;have ok:=I1.hok a _ ha;obtain⟨o',es,ep,h1,hd⟩:=C6 ok.2;have eo:o'=o:=Z4<|h1.symm.trans ok.1;subst eo;obtain⟨lo,vs,kv,hat⟩:=C7 ok hd;refine wpAny_pyIter_dict lo hat ?_;refine⟨s1.heap.objs.size,[s1.heap.objs.size],_,_,H1,rfl,I1.kept (t':=s1.toks) λb o e=>Z2 _ e,A2 a _ hd,?_,λb hb=>?_,q⟩
 ·rw[kv.length];exact⟨_,Y7 _ rfl,rfl,rfl⟩
 ·have e:b=s1.heap.objs.size:=by simpa using hb
  subst e;exact I1.fpOk (bW _)<|I1.hok.fresh<|bW _
section
abbrev nX:=List<|Int×Int
abbrev hZ:=List<|Int×Option Int
def ij(CR:Wy):Rp (List (List Int)×Int×Wy×Wy):=⟨λH v x=>∃w dw vf,v=.ref w/\H w=Wb (.ins CR dw [("floor",vf),("reach",.int x.2.1),("reached",.ref x.2.2.1),("drains",.ref x.2.2.2)])/\rF.rel H vf x.1/\x.2.2.1≠x.2.2.2,
 λe ⟨w,dw,vf,h1,h2,h3,h4⟩=>⟨w,dw,vf,h1,e _ _ h2,rF.mono e h3,h4⟩⟩
def C8(CR:Wy):Rp (List (List Int)×Int×nX):=⟨λH v x=>∃pa pb ws,(ij CR).rel H v (x.1,x.2.1,pa,pb)/\H pa=Wb (.dK ws)/\Paired (cN a7 H) ws x.2.2,
 λe ⟨pa,pb,ws,h1,h2,h3⟩=>⟨pa,pb,ws,(ij CR).mono e h1,e _ _ h2,(Paired.imp2 (λa a q=>⟨q.1,a7.mono e q.2⟩) h3)⟩⟩
def rRb(CR:Wy):Rp (List (List Int)×Int×hZ):=⟨λH v x=>∃pa pb ws,(ij CR).rel H v (x.1,x.2.1,pa,pb)/\H pb=Wb (.dK ws)/\Paired (cN (b8 a7) H) ws x.2.2,
 λe ⟨pa,pb,ws,h1,h2,h3⟩=>⟨pa,pb,ws,(ij CR).mono e h1,e _ _ h2,(Paired.imp2 (λa a q=>⟨q.1,(b8 a7).mono e q.2⟩) h3)⟩⟩
abbrev CZ:=List (List Int)×Int×nX×hZ
def rR(CR:Wy):Rp CZ:=⟨λH v x=>∃pa pb wa wb,(ij CR).rel H v (x.1,x.2.1,pa,pb)/\H pa=Wb (.dK wa)/\Paired (cN a7 H) wa x.2.2.1/\H pb=Wb (.dK wb)/\Paired (cN (b8 a7) H) wb x.2.2.2,
 λe ⟨pa,pb,wa,wb,h1,h2,h3,h4,h5⟩=>⟨pa,pb,wa,wb,(ij CR).mono e h1,e _ _ h2,(Paired.imp2 (λa a q=>⟨q.1,a7.mono e q.2⟩) h3),e _ _ h4,(Paired.imp2 (λa a q=>⟨q.1,(b8 a7).mono e q.2⟩) h5)⟩⟩
def rDz{α:Type}(r:Rp α):Rp (List<|Int×α):=⟨λH v kvs=>∃p o ws,v=.ref p/\H p=Wb (.frz o<|.dK ws)/\Paired (cN r H) ws kvs,
 λe ⟨p,o,ws,h1,h2,h3⟩=>⟨p,o,ws,h1,e _ _ h2,(Paired.imp2 (λx x q=>⟨q.1,r.mono e q.2⟩) h3)⟩⟩
def rRz(CR:Wy):Rp CZ:=⟨λH v x=>∃pa pb wa,∃o wb,(ij CR).rel H v (x.1,x.2.1,pa,pb)/\H pa=Wb (.dK wa)/\Paired (cN a7 H) wa x.2.2.1/\H pb=Wb (.frz o<|.dK wb)/\Paired (cN (b8 a7) H) wb x.2.2.2,
 λe ⟨pa,pb,wa,o,wb,h1,h2,h3,h4,h5⟩=>⟨pa,pb,wa,o,wb,(ij CR).mono e h1,e _ _ h2,Paired.imp2 (λa a q=>⟨q.1,a7.mono e q.2⟩) h3,e _ _ h4,Paired.imp2 (λa a q=>⟨q.1,(b8 a7).mono e q.2⟩) h5⟩⟩
structure RK(K:Z1)(CR:Wy):Prop where
 c:Cls K CR
 floor:cy K CR "floor"
 reach:cy K CR "reach"
 reached:cy K CR "reached"
 drains:cy K CR "drains"
variable [Kn:Kon]
section
variable {Γ:List Slot}{ta:TE}{K:Z1}{CR:Wy}
def ev_as{α β:Type}{r:Rp α}{s:Rp β}{o:Option α}{g:α->β}(h:EV Γ ta o r)(hg:∀H v x,r.rel H v x->s.rel H v (g x)):EV Γ ta (o.bind λx=>Wb<|g x) s:=λC F σ H Q b S e k =>
 bN (a8 e) λa e1 e=>h C F σ H Q a S e1 λv F' H' x1 r1=>k v F' H' x1<|Z4 e▸hg F' v a r1
def A3(k:RK K CR){o:Option (List (List Int)×Int×Wy×Wy)}(h:EV Γ ta o (ij CR)):EV Γ (gD K ta "floor") (o.bind λx=>Wb x.1) rF:=eT h λH v x ⟨w,dw,vf,h1,h2,h3⟩=>⟨w,CR,dw,_,vf,h1,h2,k.c,k.floor,rfl,h3.1⟩
def A4(k:RK K CR){o:Option (List (List Int)×Int×Wy×Wy)}(h:EV Γ ta o (ij CR)):EV Γ (gD K ta "reach") (o.bind λx=>Wb x.2.1) a7:=eT h λH v x ⟨w,dw,vf,h1,h2,h3⟩=>⟨w,CR,dw,_,.int x.2.1,h1,h2,k.c,k.reach,by rfl,rfl⟩
def A5(k:RK K CR){o:Option (List (List Int)×Int×nX)}(h:EV Γ ta o (C8 CR)):EV Γ (gD K ta "floor") (o.bind λx=>Wb x.1) rF:=eT h λH v x ⟨_,_,_,⟨w,dw,vf,h1,h2,h3⟩,_⟩=>⟨w,CR,dw,_,vf,h1,h2,k.c,k.floor,rfl,h3.1⟩
def vo(k:RK K CR){o:Option (List (List Int)×Int×nX)}(h:EV Γ ta o (C8 CR)):EV Γ (gD K ta "reached") (o.bind λx=>Wb x.2.2) (rD a7):=eT h λH v x ⟨pa,pb,ws,⟨w,dw,vf,h1,h2,h3⟩,h5,h6⟩=>⟨w,CR,dw,_,.ref pa,h1,h2,k.c,k.reached,by rfl,pa,ws,rfl,h5,h6⟩
def xy(k:RK K CR){o:Option (List (List Int)×Int×hZ)}(h:EV Γ ta o (rRb CR)):EV Γ (gD K ta "drains") (o.bind λx=>Wb x.2.2) (rD<|b8 a7):=eT h λH v x ⟨pa,pb,ws,⟨w,dw,vf,h1,h2,h3⟩,h5,h6⟩=>⟨w,CR,dw,_,.ref pb,h1,h2,k.c,k.drains,by rfl,pb,ws,rfl,h5,h6⟩
def xA(k:RK K CR){o:Option CZ}(h:EV Γ ta o (rRz CR)):EV Γ (gD K ta "drains") (o.bind λx=>Wb x.2.2.2) (rDz<|b8 a7):=eT h λH v x ⟨pa,pb,wa,ob,wb,⟨w,dw,vf,h1,h2,h3⟩,_,_,h5,h6⟩=>⟨w,CR,dw,_,.ref pb,h1,h2,k.c,k.drains,by rfl,pb,ob,wb,rfl,h5,h6⟩
def ev_zA{o:Option CZ}(h:EV Γ ta o (rRz CR)):EV Γ ta (o.bind λx=>Wb (x.1,x.2.1,x.2.2.1)) (C8 CR):=ev_as h λH v x ⟨pa,pb,wa,_,_,h1,h2,h3⟩=>⟨pa,pb,wa,h1,h2,h3.1⟩
def ob_a{m:Str}(h2:autoParam ((m=="floor")=We) gR._auto_1)(h3:autoParam ((m=="reach")=We) gR._auto_1)(h4:autoParam ((m=="reached")=We) gR._auto_1)(h5:autoParam ((m=="drains")=We) gR._auto_1):Ob (C8 CR) CR m:=λH v x ⟨_,_,_,⟨a,dm,vf,e1,e2,e3⟩,_⟩=>⟨a,dm,_,e1,e2,by simp[O8,h2,h3,h4,h5]⟩
def ob_r0{m:Str}(h2:autoParam ((m=="floor")=We) gR._auto_1)(h3:autoParam ((m=="reach")=We) gR._auto_1)(h4:autoParam ((m=="reached")=We) gR._auto_1)(h5:autoParam ((m=="drains")=We) gR._auto_1):Ob (ij CR) CR m:=λH v x ⟨a,dm,vf,e1,e2,e3⟩=>⟨a,dm,_,e1,e2,by simp[O8,h2,h3,h4,h5]⟩
def iv_dict{α:Type}{r:Rp α}{o:Option (List<|Int×α)}(h:EV Γ ta o (rDz r)):IV Γ (iDict ta) (o.bind λd=>Wb<|d.map (·.1)) a7:=λC F σ H R xs S e k=>by
 obtain⟨d,e1,e⟩:=a8 e;cases e;refine h C F σ H _ d S e1 λv F' H' x1 hv=>?_;obtain⟨p,ob,ws,e2,h1,h2⟩:=hv;have at_:∀i,i<(d.map (·.1)).length->∃n w,ws[i]?=Wb (.inl n,w)/\(d.map (·.1))[i]?=Wb n:=λi hi=>by
  have hi':i<d.length:=by simpa using hi
  obtain⟨y,g1,g2⟩:=bO h2<|Z7 hi';exact⟨d[i].1,y.2,by rw[g1,<- g2.1],by rw[Y3,Z7 hi'];rfl⟩
 refine⟨p,ob,ws,e2,x1.sub _ _ h1,k _ F' H' x1 ⟨λi H2 sb hi=>?_,λH2 sb=>⟨sb _ _ h1,by rw[Z5,h2.length];exact bW _⟩,λi H2 x H3 F1 sb hi zq s1 s2=>?_⟩⟩
 ·exact oq22 (at_ i hi) λn w g a=>⟨sb _ _ h1,n,w,g⟩
 ·obtain⟨rfl,n,w,g1,e4⟩:=zq;obtain⟨n',w',g2,g3⟩:=at_ i hi;rw[g1]at g2;cases g2;exact eB F1 n g3 (Ext.refl s2) e4
end
section
variable {C:Fc}{F H F' H':Hp}{Γ:List Slot}{σ:St}{p:Wy}{i g:Nat}
def SR.bor1{α β γ:Type}{r0:Rp α}{a0:α}{s:Rp β}{y:β}{r:Rp γ}{kvs:List (Int×γ)}(S:SR C F Γ σ H)(hi:Γ[i]?=Wb (.fr r0 a0))(hg:Γ[g]?=Wb (.od r (λb=>b=p) kvs))(hs:∀F v ws,r0.rel F v a0->F p=Wb (.dK ws)->Paired (cN r F) ws kvs->s.rel F v y):
  ∃ws,F p=Wc/\H p=Wb (.dK ws)/\SR C (aB F p<|.dK ws) ((Γ.set g .any).set i (.fr s y)) σ H:=by
 refine cz (S.at_ g _ hg) λp' ws h1 ZS h3 h4 h5 h6=>?_;subst ZS;refine bN (S.fr hi) λv q1 q2=>eD ws h4 h5 ?_;have S2:=(S.freeze hg p' _ .any rfl rfl h1 h3 h4 h5 trivial trivial).setF (r:=s) (a:=y) (v:=v) i (hs _ v ws (r0.mono (aE h4) q2) ae<|Paired.imp2 (λx x z=>⟨z.1,r.mono (aE h4) z.2⟩) h6);rw[set_same q1]at S2;exact S2
section
variable {α β γ δ:Type}{r0:Rp α}{a0:α}{s:Rp β}{y:β}{r:Rp γ}{kvs:List (Int×γ)}{q:Rp δ}{tb:TE}
theorem C9{o:Option (List δ)}(i g:Nat)(hi:Γ[i]?=Wb (.fr r0 a0))(hg:Γ[g]?=Wb (.od r (λb=>b=p) kvs))(hs:∀F v ws,r0.rel F v a0->F p=Wb (.dK ws)->Paired (cN r F) ws kvs->s.rel F v y)(fl:Flat q)(h:iR ((Γ.set g .any).set i (.fr s y)) tb o q):iR Γ tb o q:=by intro C F σ H Q b S e k;obtain⟨ws,h1,h2,S'⟩:=S.bor1 hi hg hs;refine h C _ σ H Q b S' e λv vs F' H' x1 hv r1=>?_;obtain⟨x2,h3⟩:=fq h1 h2 x1;exact k v vs _ H' x2 hv<|Paired.imp2 (λx x z=>fl h3 trivial z) r1
end
def Ca{ob:Obj}{ws:List (Key×V)}(hF:F p=Wc)(hH:H p=Wb (.dK ws))(e:Ext (aB F p<|.frz ob<|.dK ws) (aB H p<|.frz ob<|.dK ws) F' H'):Ext F H (del F' p) (aB H' p<|.dK ws)/\F' p=Wb (.frz ob<|.dK ws)/\H' p=Wb (.frz ob<|.dK ws):=by
 have hF':=e.ff p _ ae;have hH':=e.sub p _ hF';refine⟨⟨⟨λb o n h=>?_,λb ps h=>?_,λtg=>?_⟩,λb o h=>?_,λb o h=>?_,λb o h=>?_,λz b ps q=>e.nt (iW z trivial) b ps (b7 q).2⟩,hF',hH'⟩
 ·by_cases eb:b=p
  ·subst eb;rw[ae,<- h];exact hH.symm
  ·rw[ah eb];exact e.hh.kp b o n<|(ah eb).trans h
 ·have eb:b≠p:=λz=>nomatch (z▸h).symm.trans hH;refine k0 (e.hh.tb b ps<|(ah eb).trans h) λm q=>⟨m,(ah eb).trans q⟩
 ·exact(e.hh.tg (tg.poke trivial (λx z=>nomatch hH.symm.trans z) λx z=>nomatch hH.symm.trans z)).poke trivial (λx z=>nomatch hH'.symm.trans z) λx z=>nomatch hH'.symm.trans z
 ·have eb:b≠p:=ag h hF;rw[b0 eb];exact e.ff b o<|(ah eb).trans h
 ·exact(ah (b7 h).1).trans (e.sub b o (b7 h).2)
 ·refine tZ (b7 h) λn h=>(e.nw b o h).imp (λz=>?_) λz=>?_
  ·rw[ah n]at z;exact z
  ·rw[ah n]at z;exact z
def SR.fz{α β γ:Type}{r0:Rp α}{a0:α}{s:Rp β}{y:β}{r:Rp γ}{kvs:List (Int×γ)}(S:SR C F Γ σ H)(hi:Γ[i]?=Wb (.fr r0 a0))(hg:Γ[g]?=Wb (.od r (λb=>b=p) kvs))(hs:∀F v o ws,r0.rel F v a0->F p=Wb (.frz o<|.dK ws)->Paired (cN r F) ws kvs->s.rel F v y):
  ∃ws,F p=Wc/\H p=Wb (.dK ws)/\∀o,SR C (aB F p<|.frz o<|.dK ws) ((Γ.set g .any).set i (.fr s y)) σ (aB H p<|.frz o<|.dK ws):=by
 refine cz (S.at_ g _ hg) λp' ws h1 ZS h3 h4 h5 h6=>?_;subst ZS;refine bN (S.fr hi) λv q1 q2=>eD ws h4 h5 λob=>?_;have tg:TbG (aB H p'<|.frz ob<|.dK ws):=S.tg.poke trivial (λx z=>nomatch h5.symm.trans z) λx z=>nomatch h5.symm.trans z;have ff:aL F (aB F p'<|.frz ob<|.dK ws):=aE h4;have S1:SR C (aB F p'<|.frz ob<|.dK ws) (Γ.set g .any) σ (aB H p'<|.frz ob<|.dK ws) :=
  S.pk hg (λx=>rfl) h1 ⟨⟨λb u n e=>ci (ag e h3)<|S.keep.kp b u n e,λb ps e=>(S.keep.tb b ps e).imp λx z=>ci (ag e h3) z,λx=>tg⟩,S.low.trans ff,λb u e=>gZ e (λa c=>a▸c▸ae) λn e=>ci n<|S.sub b u e,λb u e=>gZ e (λa x=>.inr<|nB<|a▸h3) λx e=>S.base b u e,iW S.nt trivial,tg⟩
   (λj t n q=>S.mvAt q ff λx x o e f hu x=>have nq:=S.oth hg rfl h1 n q o e
    ⟨(ah nq).trans f,ci nq hu⟩) trivial
 have S2:=S1.setF (r:=s) (a:=y) (v:=v) i<|hs _ v ob ws (r0.mono ff q2) ae<|Paired.imp2 (λx x z=>⟨z.1,r.mono ff z.2⟩) h6;rw[set_same q1]at S2;exact S2
end
end
section
variable [Kn:Kon]
def nG{τ:Type}{ra:RpA τ}{F:Hp}{vs:List V}{a:τ}(h:ra.rel F vs a)(n j:Nat)(t:Slot)(ht:(ra.slots a++U8 n Slot.any)[j]?=Wb t):t.own=We:=by
 by_cases hj:j<(ra.slots a).length
 ·rw[W3 hj]at ht;exact((ra.ok h).2 j t ht).1
 ·rw[V1 (W5.mp hj)]at ht;rw[(G3.mp<|X6 ht).2];rfl
def spB{τ γ:Type}(CR:Wy)(ra:RpA τ)(r:Rp γ)(f:(List (List Int)×Int×hZ)×τ->Option (γ×hZ)):Sp:=λvs H Q x=>∃F v args ZZ Wf pa pb,∃ws dr a c,vs=v ::args/\aL F H/\NT F/\TbG H/\(ij CR).rel F v (ZZ,Wf,pa,pb)/\F pb=Wc/\H pb=Wb (.dK ws) /\
 Paired (cN (b8 a7) F) ws dr/\ra.rel F args a/\f ((ZZ,Wf,dr),a)=Wb c/\∀v' ws' F' H',Fr ⟨del H pb,F,F⟩ F' H'->F' pb=Wc->H' pb=Wb (.dK ws')->Paired (cN (b8 a7) F') ws' c.2->r.rel F' v' c.1->Q v' H'
def finB{γ:Type}(r:Rp γ)(p:Wy):Fc->γ×hZ->Ends->Prop:=λC x D=>∀v ws F' H',Fr C F' H'->F' p=Wc->H' p=Wb (.dK ws)->Paired (cN (b8 a7) F') ws x.2->r.rel F' v x.1->D.rt v H'
def bv_retB{Γ:List Slot}{γ:Type}{r:Rp γ}{te:TE}{oa:Option γ}{p:Wy}{dr:hZ}(g:Nat)(hg:Γ[g]?=Wb (.od (b8 a7) (λb=>b=p) dr))(he:EV Γ te oa r):BV Γ (lg te) (oa.bind λa=>Wb (a,dr)) (finB r p):=λC F σ H D x S e k=>by obtain⟨a,e1,e⟩:=a8 e;cases e;refine he C F σ H _ a S e1 λv F' H' x1 r1=>?_;refine cz ((S.grow x1).at_ g _ hg) λp' ws h1 ZS h3 h4 h5 h6=>?_;subst ZS;exact k v ws F' H' (S.grow x1).toFr h4 h5 h6 r1
section
variable {P:W7}{w:WB}{K:Z1}{mg:ZM}{base:WD}{m qual:Str}{st:WH}{N ps:ZL}{k:Nat}{CR:Wy}{τ γ:Type}{ra:RpA τ}{r:Rp γ}
def bG.pB{f:(List (List Int)×Int×hZ)×τ->Option (γ×hZ)}{n:Nat}{gx:Str}(D:bG K CR m qual st ps)(S:FnScope N ps (ao st))(hl:∀a,(ra.slots a).length+1=ps.length)(hn:N.length-ps.length=n+1)(hx:N[ps.length]?=Wb gx)(nv:fJ (ao st) gx=Wd)(h:mN P w K mg base qual st N k λt=>∀ZZ Wf pa pb dr a,BV ((.fr (ij CR) (ZZ,Wf,pa,pb) ::ra.slots a)++.od (b8 a7) (λb=>b=pb) dr ::U8 n .any) t (f ((ZZ,Wf,dr),a)) (finB r pb)):ii P w K mg base (k+1) CR m ps (spB CR ra r f):=by
 refine D.has S (λvs H Q E h=>?_) λfa ZP A outer s H vs Q E hr hsp=>?_
 ·obtain⟨F,v,args,ZZ,Wf,pa,pb,ws,dr,a,c,rfl,_,_,_,_,_,_,_,h1⟩:=h;rw[X2,(ra.ok h1.1).1,hl]
 ·obtain⟨t,h1,h2⟩:=h fa ZP A outer s H E hr;obtain⟨F,v,args,ZZ,Wf,pa,pb,ws,dr,a,c,rfl,sb,nt,tg,hm,hp,hH,hw,har,hf,q⟩:=hsp;refine⟨_,fS (g:=ps.length) h1 hx<|hV nv,.ref pb,?_⟩;have hrel:(ay (ij CR) ra).rel F (v ::args) ((ZZ,Wf,pa,pb),a):=⟨v,args,rfl,hm,har⟩;have gr:(v ::args).length=ps.length:=by rw[X2,(ra.ok har).1,hl]
  have S0:=SR.begin_ (ra:=ay (ij CR) ra) (N:=N) (n:=n+1) sb nt tg hrel (by rw[gr];exact hn);have hsl:((ay (ij CR) ra).slots ((ZZ,Wf,pa,pb),a)).length=ps.length:=hl a;have no:=nG hrel<|n+1;have S2:=(S0.less (p:=pb) no hH trivial).setG (p:=pb) (s:=.od (b8 a7) (λb=>b=pb) dr) ps.length rfl ⟨pb,ws,rfl,rfl,bR,hp,hH,hw⟩ λj t h1 h2=>nomatch (no j t h1).symm.trans h2;rw[<- hsl,tu,hsl]at S2;exact h2 ZZ Wf pa pb dr a _ F _ H _ c S2 hf λv' ws' F' H' fr g1 g2 g3 g4=>q v' ws' F' H' fr g1 g2 g3 g4
end
def spR{τ:Type}(CR:Wy)(ra:RpA τ)(f:CZ×τ->Option (nX×hZ)):Sp:=λvs H Q x=>∃F v args ZZ Wf pa pb,∃wa wb rd dr a c,vs=v ::args/\aL F H/\NT F/\TbG H/\(ij CR).rel F v (ZZ,Wf,pa,pb)/\F pa=Wc/\H pa=Wb (.dK wa)/\Paired (cN a7 F) wa rd /\
 F pb=Wc/\H pb=Wb (.dK wb)/\Paired (cN (b8 a7) F) wb dr/\ra.rel F args a/\f ((ZZ,Wf,rd,dr),a)=Wb c /\
 ∀wa' wb' F' H',Fr ⟨del (del H pa) pb,F,F⟩ F' H'->F' pa=Wc->H' pa=Wb (.dK wa')->Paired (cN a7 F') wa' c.1->F' pb=Wc->H' pb=Wb (.dK wb')->Paired (cN (b8 a7) F') wb' c.2->Q .non H'
def finR(pa pb:Wy):Fc->nX×hZ->Ends->Prop:=λC c D=>∀wa wb F σ H,Fr C F H->F pa=Wc->H pa=Wb (.dK wa)->Paired (cN a7 F) wa c.1->F pb=Wc->H pb=Wb (.dK wb)->Paired (cN (b8 a7) F) wb c.2->D.nx σ H
def bv_endR{Γ:List Slot}{pa pb:Wy}{rd:nX}{dr:hZ}(g1 g2:Nat)(hg1:Γ[g1]?=Wb (.od a7 (λb=>b=pa) rd))(hg2:Γ[g2]?=Wb (.od (b8 a7) (λb=>b=pb) dr)):BV Γ la (Wb (rd,dr)) (finR pa pb):=λC F σ H D x S e k=>by cases e;refine cz (S.at_ g1 _ hg1) λp1 vs h1 ZS h3 h4 h5 h6=>?_;subst ZS;refine cz (S.at_ g2 _ hg2) λp2 ws k1 ZS k3 k4 k5 k6=>?_;subst ZS;exact k vs ws F σ H S.toFr h4 h5 h6 k4 k5 k6
def rR0_ne{CR:Wy}{F:Hp}{v:V}{ZZ:ZX}{Wf:Int}{pa pb:Wy}(h:(ij CR).rel F v (ZZ,Wf,pa,pb)):pa≠pb:=rX h λx x x x x x z=>z
section
variable {P:W7}{w:WB}{K:Z1}{mg:ZM}{base:WD}{m qual:Str}{st:WH}{N ps:ZL}{k:Nat}{CR:Wy}{τ:Type}{ra:RpA τ}
def bG.pR{f:CZ×τ->Option (nX×hZ)}{n:Nat}{gx gy:Str}(D:bG K CR m qual st ps)(S:FnScope N ps (ao st))(hl:∀a,(ra.slots a).length+1=ps.length)(hn:N.length-ps.length=n+2)(hx:N[ps.length]?=Wb gx)(nvx:fJ (ao st) gx=Wd)(hy:N[ps.length+1]?=Wb gy)(nvy:fJ (ao st) gy=Wd)(h:mN P w K mg base qual st N k λt=>∀ZZ Wf pa pb rd dr a,BV ((.fr (ij CR) (ZZ,Wf,pa,pb) ::ra.slots a)++.od a7 (λb=>b=pa) rd :: .od (b8 a7) (λb=>b=pb) dr ::U8 n .any) t (f ((ZZ,Wf,rd,dr),a)) (finR pa pb)):ii P w K mg base (k+1) CR m ps (spR CR ra f):=by
 refine D.has S (λvs H Q E h=>?_) λfa ZP A outer s H vs Q E hr hsp=>?_
 ·obtain⟨F,v,args,ZZ,Wf,pa,pb,wa,wb,rd,dr,a,c,rfl,_,_,_,_,_,_,_,_,_,_,h1,_⟩:=h;rw[X2,(ra.ok h1).1,hl]
 ·obtain⟨t,h1,h2⟩:=h fa ZP A outer s H E hr;obtain⟨F,v,args,ZZ,Wf,pa,pb,wa,wb,rd,dr,a,c,rfl,sb,nt,tg,hm,hF1,hH1,hw1,hp,hH,hw,har,hf,q⟩:=hsp;refine⟨_,fS (g:=ps.length) (fS (g:=ps.length+1) h1 hy<|hV nvy) hx<|hV nvx,.ref pa,.ref pb,?_⟩;have ne:pa≠pb:=rR0_ne hm;have hrel:(ay (ij CR) ra).rel F (v ::args) ((ZZ,Wf,pa,pb),a):=⟨v,args,rfl,hm,har⟩;have gr:(v ::args).length=ps.length:=by rw[X2,(ra.ok har).1,hl]
  have S0:=SR.begin_ (ra:=ay (ij CR) ra) (N:=N) (n:=n+2) sb nt tg hrel (by rw[gr];exact hn);have hsl:((ay (ij CR) ra).slots ((ZZ,Wf,pa,pb),a)).length=ps.length:=hl a;have no:=nG hrel<|n+2;have S1':=(S0.less (p:=pa) no hH1 trivial).less (p:=pb) no ((b0<|V8 ne).trans hH) trivial;have S2:=S1'.setG (p:=pa) (s:=.od a7 (λb=>b=pa) rd) ps.length rfl ⟨pa,wa,rfl,rfl,(b0 ne).trans bR,hF1,hH1,hw1⟩ λj t h1 h2=>nomatch (no j t h1).symm.trans h2;have S3:=S2.setG (p:=pb) (s:=.od (b8 a7) (λb=>b=pb) dr) (ps.length+1) rfl ⟨pb,wb,rfl,rfl,bR,hp,hH,hw⟩ λj t h1 h2 h3=>by
   rcases get_set h1 with ⟨rfl,rfl,hl1⟩|⟨_,h1⟩
   ·rw[jr (by rw[S1'.len];exact hl1)]at h3;cases h3;exact ne rfl
   ·exact nomatch (no j t h1).symm.trans h2
  rw[<- hsl,uU,hsl]at S3;exact h2 ZZ Wf pa pb rd dr a _ F _ H _ c S3 hf λwa' wb' F' x H' fr g1 g2 g3 g4 g5 g6=>q wa' wb' F' H' fr g1 g2 g3 g4 g5 g6
end
section
variable {Γ:List Slot}{T τ:Type}{CR pa pb:Wy}{ZZ:ZX}{Wf:Int}{rd:nX}{dr:hZ}{u:TS}{fin:Fc->T->Ends->Prop}{K:Z1}
def walks_l{α:Type}{r:Rp α}{F:Hp}{v:V}{xs:List α}(h:(rL r).rel F v xs):∃a vs,v=.ref a/\Rd F a (.lst vs)/\Walks (Itl K a) F r xs:=by refine k7 h λp vs e2 h1 h2=>eB p vs e2 h1 ⟨λi H2 sb hi=>⟨vs,vs[i]'(by rw[h2.length];exact hi),.inl<|sb.rd h1,by simp⟩,λH2 sb=>⟨vs,.inl<|sb.rd h1,by rw[h2.length];exact bW _⟩,λi H2 x H3 F1 sb hi zq s1 s2=>?_⟩;obtain⟨rfl,y⟩:=zq;obtain⟨w,g1,g2⟩:=bO h2<|Z7 hi;have ex:x=w:=Z4<|(y vs<|.inl<|sb.rd h1).symm.trans g1;subst ex;exact eB F1 (xs[i]) (Z7 hi) (Ext.refl s2)<|r.mono s1 g2
def rRp(CR:Wy):Rp (List (List Int)×Int×nX×Wy):=⟨λH v x=>∃pa ws,(ij CR).rel H v (x.1,x.2.1,pa,x.2.2.2)/\H pa=Wb (.dK ws)/\Paired (cN a7 H) ws x.2.2.1,
 λe ⟨pa,ws,h1,h2,h3⟩=>eB pa ws ((ij CR).mono e h1) (e _ _ h2)<|Paired.imp2 (λa a q=>⟨q.1,a7.mono e q.2⟩) h3⟩
def own_rA(k:RK K CR)(i g:Nat)(hi:Γ[i]?=Wb (.fr (ij CR) (ZZ,Wf,pa,pb)))(hg:Γ[g]?=Wb (.od a7 (λb=>b=pa) rd)):jv Γ (gD K (bf i) "reached") g:=λC F σ H Q v S hv q=>by refine cz (S.at_ g _ hg) λp' ws h1 ZS h3 h4 h5 h6=>?_;subst ZS;rw[hv]at h1;cases h1;obtain⟨w,q1,m,dm,vf,rfl,h7,h8⟩:=S.fr hi;exact⟨.ref m,q1,m,CR,dm,_,.ref p',rfl,S.sub _ _ h7,k.c,k.reached,by rfl,q⟩
def Cb(k:RK K CR)(i g:Nat)(hi:Γ[i]?=Wb (.fr (ij CR) (ZZ,Wf,pa,pb)))(hg:Γ[g]?=Wb (.od (b8 a7) (λb=>b=pb) dr)):jv Γ (gD K (bf i) "drains") g:=λC F σ H Q v S hv q=>by refine cz (S.at_ g _ hg) λp' ws h1 ZS h3 h4 h5 h6=>?_;subst ZS;rw[hv]at h1;cases h1;obtain⟨w,q1,m,dm,vf,rfl,h7,h8⟩:=S.fr hi;exact⟨.ref m,q1,m,CR,dm,_,.ref p',rfl,S.sub _ _ h7,k.c,k.drains,by rfl,q⟩
def bv_rise{m:Str}{ra:RpA τ}{t:TA}{oτ:Option τ}{f:CZ×τ->Option (nX×hZ)}{gg:nX->hZ->Option T}(i g1 g2:Nat)(Wr:g1≠g2)(hi:Γ[i]?=Wb (.fr (ij CR) (ZZ,Wf,pa,pb)))(hg1:Γ[g1]?=Wb (.od a7 (λb=>b=pa) rd))(hg2:Γ[g2]?=Wb (.od (b8 a7) (λb=>b=pb) dr))(ha:EA Γ t oτ ra)(h:∀hs es,BV ((Γ.set g1<|.od a7 (λb=>b=pa) hs).set g2 (.od (b8 a7) (λb=>b=pb) es)) u (gg hs es) fin)(ob:Ob (ij CR) CR m):BV Γ (bC (nk<|fF CR m (spR CR ra f) [] E0 (bf i) t) u) (oτ.bind λa=>(f ((ZZ,Wf,rd,dr),a)).bind λc=>gg c.1 c.2) fin:=by intro C F σ H D x S e k;obtain⟨a,e1,e⟩:=a8 e;obtain⟨c,e2,e⟩:=a8 e;obtain⟨w,q1,q2⟩:=S.fr hi;obtain⟨ad,dx,fs,z1,z2,z3⟩:=ob F w _ q2;refine⟨w,q1,ad,dx,fs,z1,S.sub _ _ z2,z3,ha C F σ H _ a S e1 λvs F' H' x1 r1=>?_⟩;have S':=S.grow x1;refine cz (S'.at_ g1 _ hg1) λp1 hs h1 ZS h3 h4 h5 h6=>?_;subst ZS;refine cz (S'.at_ g2 _ hg2) λp2 ws k1 ZS k3 k4 k5 k6=>?_;subst ZS;refine⟨F',w,vs,ZZ,Wf,p1,p2,hs,ws,rd,dr,a,c,by rw[V2],S'.sub,S'.nt,S'.tg,(ij CR).mono x1.ff q2,h4,h5,h6,k4,k5,k6,r1,e2,λhs' ws' F2 H2 fr m1 m2 m3 m4 m5 m6=>?_⟩;exact h c.1 c.2 C F2 σ H2 D x (S'.mut2 (u:=.dK hs) (v:=.dK ws) Wr hg1 rfl h1 h3 h5 hg2 rfl k1 k3 k5 fr rfl ⟨p1,hs',rfl,rfl,h3,m1,m2,m3⟩ rfl ⟨p2,ws',rfl,rfl,k3,m4,m5,m6⟩) e k
def bv_retR(i g1 g2:Nat)(Wr:g1≠g2)(hi:Γ[i]?=Wb (.fr (ij CR) (ZZ,Wf,pa,pb)))(hg1:Γ[g1]?=Wb (.od a7 (λb=>b=pa) rd))(hg2:Γ[g2]?=Wb (.od (b8 a7) (λb=>b=pb) dr))(hi2:i≠g1/\i≠g2/\i<Γ.length):BV Γ (lg<|bf i) (Wb (ZZ,Wf,rd,dr)) (nT<|rR CR):=λC F σ H D x S e k=>by
 cases e;obtain⟨ws,h1,h2,S1⟩:=S.bor1 (s:=C8 CR) (y:=(ZZ,Wf,rd)) hi hg1 λF v ws h1 h2 h3=>⟨pa,pb,ws,h1,h2,h3⟩;have hi1:((Γ.set g1 .any).set i (.fr (C8 CR) (ZZ,Wf,rd)))[i]?=Wb (.fr (C8 CR) (ZZ,Wf,rd)):=jr (by rw[T1];exact hi2.2.2);have hg21:((Γ.set g1 .any).set i (.fr (C8 CR) (ZZ,Wf,rd)))[g2]?=Wb (.od (b8 a7) (λb=>b=pb) dr):=by rw[bM hi2.2.1,bM Wr];exact hg2
 refine bN (S.fr hi) λv q1 q2=>⟨v,q1,?_⟩;refine cz (S1.at_ g2 _ hg21) λp2 wb k1 ZS k3 k4 k5 k6=>?_;subst ZS;refine cz (S.at_ g1 _ hg1) λp1 wa l1 ZS l3 l4 l5 l6=>?_;subst ZS;have ew:wa=ws:=by rw[h2]at l5;cases l5;rfl
 subst ew;have S2:=S1.freeze hg21 p2 (.dK wb) .any rfl rfl k1 k3 k4 k5 trivial trivial;have s1:aL F (aB F p1<|.dK wa):=aE h1;have s2:aL (aB F p1<|.dK wa) (aB (aB F p1<|.dK wa) p2<|.dK wb):=aE k4;refine k v _ H S2.toFr ⟨p1,p2,wa,wb,(ij CR).mono (s1.trans s2) q2,s2 _ _ ae,Paired.imp2 (λa a z=>⟨z.1,a7.mono (s1.trans s2) z.2⟩) l6,ae,Paired.imp2 (λa a z=>⟨z.1,(b8 a7).mono s2 z.2⟩) k6⟩
set_option tactic.hygienic true in
def bv_fz{tc:TE}{oc:Zi}{gg:List Int->Option T}(i g1 g2 j:Nat)(Wr:g1≠g2)(hi2:i≠g1/\i≠g2/\i<Γ.length)(hi:Γ[i]?=Wb (.fr (ij CR) (ZZ,Wf,pa,pb)))(hg1:Γ[g1]?=Wb (.od a7 (λb=>b=pa) rd))(hg2:Γ[g2]?=Wb (.od (b8 a7) (λb=>b=pb) dr))(hc:iR ((((Γ.set g1 .any).set i (.fr (rRp CR) (ZZ,Wf,rd,pb))).set g2 .any).set i (.fr (rRz CR) (ZZ,Wf,rd,dr))) tc oc a7)(h:∀ys,BV (Γ.set j<|.ol a7 jj ys) u (gg ys) fin):BV Γ (bC (tFz<|ie tc<|du j) u) (oc.bind gg) fin:=λC F σ H D x S e k=>by
 obtain⟨ys,e1,e⟩:=a8 e;obtain⟨wa,h1,h2,S1⟩:=S.bor1 (s:=rRp CR) (y:=(ZZ,Wf,rd,pb)) hi hg1 λF v ws h1 h2 h3=>⟨pa,ws,h1,h2,h3⟩;have hi1:((Γ.set g1 .any).set i (.fr (rRp CR) (ZZ,Wf,rd,pb)))[i]?=Wb (.fr (rRp CR) (ZZ,Wf,rd,pb)):=jr (by rw[T1];exact hi2.2.2);have hg21:((Γ.set g1 .any).set i (.fr (rRp CR) (ZZ,Wf,rd,pb)))[g2]?=Wb (.od (b8 a7) (λb=>b=pb) dr):=by rw[bM hi2.2.1,bM Wr];exact hg2
 obtain⟨wb,k1,k2,S2⟩:=S1.fz (s:=rRz CR) (y:=(ZZ,Wf,rd,dr)) hi1 hg21 λF v o ws h1 h2 h3=>k7 h1 λpa wa z1 z2 z3=>⟨pa,pb,wa,o,ws,z1,z2,z3,h2,h3⟩;refine⟨pb,wb,k2,λo=>?_⟩;refine hc C _ σ _ _ ys (S2 o) e1 λp vs F' H' x1 hp r1=>?_;obtain⟨x2,k3,k4⟩:=Ca k1 k2 x1;have npb:p≠pb:=(ag k4 hp).symm;refine⟨(ah<|V8 npb).trans k4,?_⟩;obtain⟨x3,k5⟩:=fq h1 h2 x2;have S3:=S.grow x3;have ee:aB (aB H' p<|.lst vs) pb (.dK wb)=aB (aB H' pb<|.dK wb) p (.lst vs):=by
  funext b;unfold aB;split
  ·rename_i z;rw[VQ λy=>npb<|y.symm.trans z]
  ·rfl
 rw[ee];have hp2:aB H' pb (.dK wb) p=Wc:=(ah npb).trans hp;have fl:Paired (a7.rel<|del (del F' pb) pa) vs ys:=r1;exact h ys C _ _ _ D x (S3.setO j hp2 rfl ⟨p,vs,rfl,trivial,S3.keep.free hp2,x3.sub.free hp2,ae,fl⟩) e k
set_option tactic.hygienic true in
def bv_ext{m:Str}{ra:RpA τ}{t:TA}{oτ:Option τ}{f:(List (List Int)×Int×hZ)×τ->Option (List Int×hZ)}{loc:ZL}{cap:ZI}{g:TG}{tt:TT}{te:TE}{tf:Int->Option Bool}{ff:Int->Option Int}{mm:Nat}{Γt:hZ->Int->List Slot}{gg:List Int->hZ->Option T}{ws:ZW}{φ:ZJ}(i g1 g2 j:Nat)(hd:g1≠g2/\j≠g2)(hi:Γ[i]?=Wb (.fr (ij CR) (ZZ,Wf,pa,pb)))(hi2:i≠g2)(hg1:Γ[g1]?=Wb (.od a7 (λb=>b=pa) rd))(hg2:Γ[g2]?=Wb (.od (b8 a7) (λb=>b=pb) dr))(hj:Γ[j]?=Wb (.ol a7 φ ws))(ha:EA Γ t oτ ra)(hc:(cap.map (·.2)).Nodup)(hm:mm<=loc.length)(hg:∀d,GV (uH loc cap<|((Γ.set g2<|.od (b8 a7) (λb=>b=pb) d).set g1 .any).set i (.fr (C8 CR) (ZZ,Wf,rd))) mm g a7 (Γt d))(ht:∀d x,ET (Γt d x) tt (tf x))(he:∀d x,EV (Γt d x) te (ff x) a7)(h:∀zs d,BV ((Γ.set g2<|.od (b8 a7) (λb=>b=pb) d).set j (.ol a7 φ zs)) u (gg zs d) fin)(ob:Ob (ij CR) CR m):
  BV Γ (bC (nk<|tBM K "list" y8 (bf j) (aK (p6 (lz K<|fF CR m (spB CR ra (rL a7) f) [] E0 (bf i) t) loc cap g tt te) bL)) u) (oτ.bind λa=>(f ((ZZ,Wf,dr),a)).bind λc=>(bJ tf ff c.1).bind λys=>(CY ws ys).bind λzs=>gg zs c.2) fin:=by
 intro C F σ H D x S e k;obtain⟨a,e1,e⟩:=a8 e;obtain⟨c,e2,e⟩:=a8 e;obtain⟨ys,e3,e⟩:=a8 e;obtain⟨zs,e4,e⟩:=a8 e;refine cz (S.at_ j _ hj) λl vs h1 h2 h3 h4 h5 h6=>?_;obtain⟨w,q1,q2⟩:=S.fr hi;obtain⟨ad,dx,fs,z1,z2,z3⟩:=ob F w _ q2;refine⟨.ref l,h1,.inl ⟨rfl,vs,dj.of h5⟩,w,q1,ad,dx,fs,z1,S.sub _ _ z2,z3,ha C F σ H _ a S e1 λus F1 H1 x1 r1=>?_⟩;have S1:=S.grow x1;refine cz (S1.at_ g2 _ hg2) λp2 wb k1 ZS k3 k4 k5 k6=>?_;subst ZS;refine⟨F1,w,us,ZZ,Wf,pa,p2,wb,dr,a,c,by rw[V2],S1.sub,S1.nt,S1.tg,(ij CR).mono x1.ff q2,k4,k5,k6,r1,e2,λv' wb' F2 H2 fr m1 m2 m3 m4=>?_⟩;have S2:=S1.mut (s':=.od (b8 a7) (λb=>b=p2) c.2) (u':=.dK wb') hg2 rfl k1 k3 k5 fr rfl ⟨p2,wb',rfl,rfl,k3,m1,m2,m3⟩;have hi':(Γ.set g2<|.od (b8 a7) (λb=>b=p2) c.2)[i]?=Wb (.fr (ij CR) (ZZ,Wf,pa,p2)):=by rw[bM (V8 hi2)];exact hi
 have hg1':(Γ.set g2<|.od (b8 a7) (λb=>b=p2) c.2)[g1]?=Wb (.od a7 (λb=>b=pa) rd):=by rw[bM (V8 hd.1)];exact hg1
 have hj':(Γ.set g2<|.od (b8 a7) (λb=>b=p2) c.2)[j]?=Wb (.ol a7 φ ws):=by rw[bM (V8 hd.2)];exact hj
 obtain⟨wa,n1,n2,S3⟩:=S2.bor1 (s:=C8 CR) (y:=(ZZ,Wf,rd)) hi' hg1' λF v ws h1 h2 h3=>⟨pa,p2,ws,h1,h2,h3⟩;have rv:(rL a7).rel (aB F2 pa<|.dK wa) v' c.1:=(rL a7).mono (aE n1) m4;refine k7 (walks_l (K:=K) rv) λad vl ev hr W=>⟨ad,ev,⟨vl,.inl<|S3.sub.rd hr⟩,rj S3 W hc hm (hg c.2) (ht c.2) (he c.2) e3 λp vs2 F4 H4 x4 hp r4=>?_⟩;obtain⟨x5,_⟩:=fq n1 n2 x4;have S5:=(S2.grow x5).grow (Ext.newH (o:=.lst vs2) x5.sub hp);refine cz (S5.at_ j _ hj') λl' vs5 l1 l2 l3 l4 l5 l6=>?_;rw[h1]at l1;cases l1;unfold CY at e4;split at e4
 case isFalse=>cases e4
 rename_i hlen;cases e4;refine⟨l,p,vs5,vs2,rfl,rfl,l5,ae,by rw[l6.length,r4.length,V0];exact hlen,?_⟩;exact h _ c.2 C _ σ _ D x (S5.chg hj' rfl h1 l3 l4 rfl ⟨l,_,rfl,l2,l3,l4,ae,Paired.app l6 r4⟩) e k
end
end
section
variable [Kn:Kon]
def spIR(CR:Wy)(f:List (List Int)->Option hZ):Sp:=λvs H Q a=>∃F x dx vf ZZ Wf dr,vs=[.ref x,vf,.int Wf]/\aL F H/\NT F/\TbG H/\F x=Wc/\H x=Wb (.ins CR dx [])/\rF.rel F vf ZZ/\f ZZ=Wb dr /\
 ∀pa pb wb F' H',Fr ⟨del H x,F,F⟩ F' H'->F' x=Wb (.ins CR dx [("floor",vf),("reach",.int Wf),("reached",.ref pa),("drains",.ref pb)])->(F' pa=Wc/\F' pb=Wc)->(H pa=Wc/\H pb=Wc/\pa≠pb)->H' pa=Wb (.dK [])->H' pb=Wb (.dK wb)->Paired (cN (b8 a7) F') wb dr->Q .non H'
def finI(pa pb:Wy):Fc->hZ->Ends->Prop:=λC c D=>∀wb F σ H,Fr C F H->F pa=Wc->H pa=Wb (.dK [])->F pb=Wc->H pb=Wb (.dK wb)->Paired (cN (b8 a7) F) wb c->D.nx σ H
def bv_endI{Γ:List Slot}{pa pb:Wy}{dr:hZ}(g1 g2:Nat)(hg1:Γ[g1]?=Wb (.od a7 (λb=>b=pa) []))(hg2:Γ[g2]?=Wb (.od (b8 a7) (λb=>b=pb) dr)):BV Γ la (Wb dr) (finI pa pb):=λC F σ H D x S e k=>by cases e;refine cz (S.at_ g1 _ hg1) λp1 vs h1 ZS h3 h4 h5 h6=>?_;subst ZS;refine cz (S.at_ g2 _ hg2) λp2 ws k1 ZS k3 k4 k5 k6=>?_;subst ZS;cases h6;exact k ws F σ H S.toFr h4 h5 k4 k5 k6
def SR.blank{C:Fc}{F H:Hp}{σ:St}(fr:Fr C F H):SR C F (U8 σ.length .any) σ H:=by have an:∀(i:Nat) s,(U8 σ.length Slot.any)[i]?=Wb s->s=.any/\i<σ.length:=λi s h=>⟨(G3.mp<|X6 h).2,by have:=(Z6.mp h).1;rwa [L5]at this⟩;exact⟨fr,L5.symm,λi s h=>tZ (an i s h) λe hi=>⟨σ[i],Z7 hi,by subst e;trivial⟩,λi j s t p h1 x o1 x x x=>by rw[(an i s h1).1]at o1;cases o1⟩
def init_R{K:Z1}{CR:Wy}(k:RK K CR){f:List (List Int)->Option hZ}{u:TS}{N:ZL}(hN:N.length=7)(hu:∀ZZ Wf pa pb,BV [.fr (ij CR) (ZZ,Wf,pa,pb),.fr rF ZZ,.fr a7 Wf,.od a7 (λb=>b=pa) [],.od (b8 a7) (λb=>b=pb) [],.any,.any] u (f ZZ) (finI pa pb)){vs:List V}{H:Hp}{Q:VK}{E:XK}(h:spIR CR f vs H Q E):
  (bC (lA K (bf 0) (bf 1) "floor")<|bC (lA K (bf 0) (bf 2) "reach")<|bC (lA K (bf 0) oY "reached")<|bC (lA K (bf 0) oY "drains")<|yA 3<|yA 4 u) {nx:=λi H'=>Q .non H',rt:=Q} (start N vs) H:=by
 obtain⟨F,x,dx,vf,ZZ,Wf,dr,rfl,sb,nt,tg,hFx,hx,hvf,hf,q⟩:=h;have es:start N [.ref x,vf,.int Wf]=[Wb (.ref x),Wb vf,Wb (.int Wf),Wc,Wc,Wc,Wc]:=by unfold start;simp[hN]
 rw[es];refine⟨vf,rfl,.ref x,rfl,x,CR,dx,[],rfl,hx,k.c,k.floor,by simp,?_⟩;refine⟨.int Wf,rfl,.ref x,rfl,x,CR,dx,[("floor",vf)],rfl,ae,k.c,k.reach,by simp,?_⟩;rw[rY];intro pa hpa;have ax:pa≠x:=(ag ae hpa).symm;refine⟨.ref x,rfl,x,CR,dx,[("floor",vf),("reach",.int Wf)],rfl,(ah<|V8 ax).trans ae,k.c,k.reached,by simp,?_⟩;intro pb hpb;have bx:pb≠x:=(ag ae hpb).symm;rw[ah bx]at hpb;have ba:pb≠pa:=(ag ae hpb).symm;rw[ah ba,ah bx]at hpb;rw[ah ax]at hpa;refine⟨.ref x,rfl,x,CR,dx,[("floor",vf),("reach",.int Wf),("reached",.ref pa)],rfl,(ah<|V8 bx).trans ae,k.c,k.drains,by simp,.ref pa,.ref pb,?_⟩;have hH:∃H4,aB (aB (aB (aB (aB H x<|.ins CR dx<|dN "reach" (.int Wf) [("floor",vf)]) pa<|.dK []) x<|.ins CR dx<|dN "reached" (.ref pa) [("floor",vf),("reach",.int Wf)]) pb<|.dK []) x (.ins CR dx<|dN "drains" (.ref pb) [("floor",vf),("reach",.int Wf),("reached",.ref pa)])=H4/\H4 x=Wb (.ins CR dx [("floor",vf),("reach",.int Wf),("reached",.ref pa),("drains",.ref pb)])/\H4 pa=Wb (.dK [])/\H4 pb=Wb (.dK [])/\(∀b,b≠x->b≠pa->b≠pb->H4 b=H b)/\TbG H4:=by
  refine⟨_,rfl,ae,?_,?_,λb n1 n2 n3=>?_,?_⟩
  ·rw[ah ax,ah (V8 ba),ah ax,ae]
  ·rw[ah bx,ae]
  ·rw[ah n1,ah n3,ah n1,ah n2,ah n1]
  ·exact((((tg.pokI (o:=.ins CR dx<|dN "reach" (.int Wf) [("floor",vf)]) trivial hx).pokN (p:=pa) (o:=.dK []) trivial ((ah ax).trans hpa)).pokI (p:=x) (o:=.ins CR dx<|dN "reached" (.ref pa) [("floor",vf),("reach",.int Wf)]) trivial ((ah<|V8 ax).trans ae)).pokN (p:=pb) (o:=.dK []) trivial ((ah bx).trans ((ah ba).trans ((ah bx).trans hpb)))).pokI trivial ((ah<|V8 bx).trans ae)
 obtain⟨H4,e4,h4x,h4a,h4b,h4o,tg4⟩:=hH;show u _ _ _;rw[show aB (aB (aB (aB (aB H x<|.ins CR dx<|dN "reach" (.int Wf) [("floor",vf)]) pa<|.dK []) x<|.ins CR dx<|dN "reached" (.ref pa) [("floor",vf),("reach",.int Wf)]) pb<|.dK []) x (.ins CR dx<|dN "drains" (.ref pb) [("floor",vf),("reach",.int Wf),("reached",.ref pa)])=H4 from e4];have kH:∀b o,b≠x->H b=Wb o->H4 b=Wb o:=λb o n e=>(h4o b n (ag e hpa)<|ag e hpb).trans e;have F4x:aL F (aB F x<|.ins CR dx [("floor",vf),("reach",.int Wf),("reached",.ref pa),("drains",.ref pb)]):=aE hFx;have fr:Fr ⟨del H x,F,aB F x<|.ins CR dx [("floor",vf),("reach",.int Wf),("reached",.ref pa),("drains",.ref pb)]⟩ (aB F x<|.ins CR dx [("floor",vf),("reach",.int Wf),("reached",.ref pa),("drains",.ref pb)]) H4:=by
  refine⟨⟨λb o n e=>kH b o (b7 e).1 (b7 e).2,λb ps e=>⟨#[],(kH b _ (b7 e).1 (b7 e).2).trans (by simp)⟩,λi=>tg4⟩,aL.refl _,λb o e=>?_,λb o e=>?_,iW nt trivial,tg4⟩
  ·by_cases z:b=x
   ·subst z;rw[ae]at e;rw[<- e];exact h4x
   ·rw[ah z]at e;exact kH b o z<|sb b o e
  ·by_cases z:b=x
   ·subst z;exact .inr<|nB bR
   ·rw[ah z]at e;exact .inl e
 have Fa:aB F x (.ins CR dx [("floor",vf),("reach",.int Wf),("reached",.ref pa),("drains",.ref pb)]) pa=Wc:=(ah ax).trans (sb.free hpa);have Fb:aB F x (.ins CR dx [("floor",vf),("reach",.int Wf),("reached",.ref pa),("drains",.ref pb)]) pb=Wc:=(ah bx).trans (sb.free hpb);have S0:=SR.blank (σ:=[Wb (.ref x),Wb vf,Wb (.int Wf),Wc,Wc,Wc,Wc]) fr;have S3:=((S0.setF (r:=ij CR) (a:=(ZZ,Wf,pa,pb)) (v:=.ref x) 0 ⟨x,dx,vf,rfl,ae,rF.mono F4x hvf,V8 ba⟩).setF (r:=rF) (a:=ZZ) (v:=vf) 1 (rF.mono F4x hvf)).setF (r:=a7) (a:=Wf) (v:=.int Wf) 2 rfl;have S4:=S3.setG (p:=pa) (s:=.od a7 (λb=>b=pa) []) 3 rfl ⟨pa,[],rfl,rfl,(b0 ax).trans hpa,Fa,h4a,.nil⟩ λj t h1 h2 h3=>by
  match j,h1 with
  |0,h1=>cases h1;cases h2
  |1,h1=>cases h1;cases h2
  |2,h1=>cases h1;cases h2
  |3,h1=>cases h1;cases h2
  |4,h1=>cases h1;cases h2
  |5,h1=>cases h1;cases h2
  |6,h1=>cases h1;cases h2
 have S5:=S4.setG (p:=pb) (s:=.od (b8 a7) (λb=>b=pb) []) 4 rfl ⟨pb,[],rfl,rfl,(b0 bx).trans hpb,Fb,h4b,.nil⟩ λj t h1 h2 h3=>by
  match j,h1,h3 with
  |0,h1,_=>cases h1;cases h2
  |1,h1,_=>cases h1;cases h2
  |2,h1,_=>cases h1;cases h2
  |3,_,h3=>cases h3;exact ba rfl
  |4,h1,_=>cases h1;cases h2
  |5,h1,_=>cases h1;cases h2
  |6,h1,_=>cases h1;cases h2
 exact hu ZZ Wf pa pb _ _ _ H4 _ dr S5 hf λwb F' σ' H' fr' g1 g2 g3 g4 g5=>q pa pb wb F' H' ⟨fr'.keep,F4x.trans fr'.low,fr'.sub,fr'.base,fr'.nt,fr'.tg⟩ (fr'.low _ _ ae) ⟨g1,g3⟩ ⟨hpa,hpb,V8 ba⟩ g2 g4 g5
def vp{Γ:List Slot}{ta:TE}{K:Z1}{CR:Wy}(k:RK K CR){o:Option CZ}(h:EV Γ ta o (rR CR)):EV Γ (gD K ta "reached") (o.bind λx=>Wb x.2.2.1) (rD a7):=eT h λH v x ⟨pa,pb,wa,wb,⟨w,dw,vf,h1,h2,h3⟩,h5,h6⟩=>⟨w,CR,dw,_,.ref pa,h1,h2,k.c,k.reached,by rfl,pa,wa,rfl,h5,h6.1⟩
section
variable {Γ:List Slot}{T:Type}{CR:Wy}{u:TS}{fin:Fc->T->Ends->Prop}{f:List (List Int)->Option hZ}
theorem Cc{t:TA}{oa:Option (List (List Int)×Int)}{gg:List (List Int)->Int->hZ->Option T}(i g1 g2:Nat)(Wr:g1≠g2)(ha:EA Γ t oa (ay rF<|bo a7))(h:∀ZZ Wf pa pb dr,BV (((Γ.set i<|.fr (ij CR) (ZZ,Wf,pa,pb)).set g1 (.od a7 (λb=>b=pa) [])).set g2 (.od (b8 a7) (λb=>b=pb) dr)) u (gg ZZ Wf dr) fin):
  BV Γ (bC (ie (ki CR (spIR CR f) [] E0 t)<|du i)<|yA g1<|yA g2 u) (oa.bind λa=>(f a.1).bind λdr=>gg a.1 a.2 dr) fin:=by
 intro C F σ H D x S e k;obtain⟨a,e1,e⟩:=a8 e;obtain⟨dr,e2,e⟩:=a8 e;refine ha C F σ H _ a S e1 λvs F1 H1 x1 r1=>?_;obtain⟨vf,us,rfl,r2,v2,rfl,r3⟩:=r1;cases r3;have S1:=S.grow x1;intro w dx hw hdx nd;have Fw:F1 w=Wc:=S1.sub.free hw;have Fd:F1 dx=Wc:=S1.sub.free hdx;refine⟨F1,w,dx,vf,a.1,a.2,dr,rfl,λb o z=>by rw[ah (ag z Fw),ah (ag z Fd)];exact S1.sub b o z,S1.nt,?_,Fw,ae,r2,e2,λpa pb wb F' H' fr fx zf zn q1 q2 q3=>⟨rfl,?_⟩⟩
 ·exact(S1.tg.pokN (p:=dx) (o:=.own w) trivial hdx).pokN trivial ((ah<|V8 nd).trans hw)
 have frH:∀b,aB (aB H1 dx<|.own w) w (.ins CR dx []) b=Wc->H1 b=Wc:=λb z=>by rw[ah (ag ae z).symm]at z;rw[ah (ag ae z).symm]at z;exact z
 have n1:=frH pa zn.1;have n2:=frH pb zn.2.1;have kH:∀b o,H1 b=Wb o->del (aB (aB H1 dx<|.own w) w<|.ins CR dx []) w b=Wb o:=λb o z=>by rw[b0 (ag z hw),ah (ag z hw),ah (ag z hdx)];exact z
 have ext:Ext F1 H1 F' H':=by
  refine⟨⟨λb o n z=>fr.keep.kp b o n<|kH b o z,λb ps z=>fr.keep.tb b ps<|kH b _ z,λc=>fr.tg⟩,fr.low,fr.sub,λb o z=>?_,λc=>fr.nt⟩;rcases fr.base b o z with y|y
  ·exact .inl y
  ·by_cases bw:b=w
   ·subst bw;exact .inr<|nB hw
   ·have y:zC (del (aB (aB H1 dx<|.own w) w<|.ins CR dx []) w b):=y;rw[b0 bw,ah bw]at y;by_cases bd:b=dx
    ·subst bd;rw[ae]at y;exact y.elim
    ·rw[ah bd]at y;exact .inr y
 have S2:=S1.grow ext;have S3:=S2.setF (r:=ij CR) (a:=(a.1,a.2,pa,pb)) (v:=.ref w) i ⟨w,dx,vf,rfl,fx,rF.mono fr.low r2,zn.2.2⟩;have noown:∀b,H1 b=Wc->∀(j:Nat) t,(Γ.set i<|.fr (ij CR) (a.1,a.2,pa,pb))[j]?=Wb t->t.own=Wd->(σ.set i<|some<|.ref w)[j]?≠Wb (Wb<|.ref b):=λb nb j t z1 z2 z3=>by
  rcases get_set z1 with ⟨rfl,rfl,_⟩|⟨nj,z1⟩
  ·cases z2
  ·rw[bM nj]at z3;obtain⟨o,y1,y2⟩:=S1.at_ j t z1;rw[z3]at y1;cases y1;exact bN (sR z2 y2) λw9 y3 c=>nomatch nb.symm.trans y3
 have S4:=S3.setG (p:=pa) (s:=.od a7 (λb=>b=pa) []) g1 rfl ⟨pa,[],rfl,rfl,S1.keep.free n1,zf.1,q1,.nil⟩<|noown pa n1;have S5:=S4.setG (p:=pb) (s:=.od (b8 a7) (λb=>b=pb) dr) g2 rfl ⟨pb,wb,rfl,rfl,S1.keep.free n2,zf.2,q2,q3⟩ λj t z1 z2 z3=>by
  rcases get_set z1 with ⟨rfl,rfl,hl⟩|⟨nj,z1⟩
  ·rw[jr (by rw[S3.len];exact hl)]at z3;cases z3;exact zn.2.2 rfl
  ·rw[bM nj]at z3;exact noown pb n2 j t z1 z2 z3
 exact⟨.ref pa,.ref pb,h a.1 a.2 pa pb dr C _ _ H' D x S5 e k⟩
end
end
section
variable [Kn:Kon]
section
def at_end1(l:List V)(a:V):xW (l++[a]) (-1)=Wb a:=by
 have e:k9 (l++[a]).length (-1)=Wb l.length:=by unfold k9;rw[VQ (by decide),X4,P6,VP (by omega)];congr 1;omega
 unfold xW;rw[e];show (l++[a])[l.length]?=Wb a;simp
end
section
variable {Γ:List Slot}{T:Type}{u:TS}{fin:Fc->T->Ends->Prop}{K:Z1}{α:Type}{r:Rp α}{φ:ZJ}{xs:List α}{to:TE}{o:Option T}
def A6(i:Nat)(ho:jv Γ to i)(hi:Γ[i]?=Wb (.ol r φ xs))(h:BV (Γ.set i<|.ol r φ []) u o fin):BV Γ (bC (nk<|zm K "list" wz to) u) o fin:=by intro C F σ H D x S e k;refine cz (S.at_ i _ hi) λp vs h1 h2 h3 h4 h5 h6=>?_;exact ho C F σ H _ (.ref p) S h1 ⟨.inl ⟨rfl,vs,dj.of h5⟩,p,vs,rfl,rfl,h5,h C F σ _ D x (S.chg hi rfl h1 h3 h4 rfl ⟨p,_,rfl,h2,h3,h4,ae,.nil⟩) e k⟩
end
end
end L2

namespace Pu
def me:List (Int×Int)->Int×Int->Int×Int
 |[],b=>b
 |x ::xs,b=>if dZ x b=Wd then me xs x else me xs b
def A7:List (Int×Int)->Option (Int×Int)
 |[]=>Wc
 |x ::xs=>Wb<|me xs x
def pT:∀(xs:ZF) (b:ZA),(me xs b=b\/me xs b∈xs)/\dZ b (me xs b)=We/\∀x∈xs,dZ x (me xs b)=We
 |[],b=>⟨.inl rfl,by show dZ b b=We;unfold dZ;rw[VT];omega,λa h=>nomatch h⟩
 |x ::xs,b=>by
  unfold me;by_cases c:dZ x b=Wd
  ·rw[VP c];have ih:=pT xs x;refine⟨.inr (ih.1.elim (λe=>by rw[e];exact .head _) λe=>.tail _ e),?_,λy hy=>?_⟩
   ·have:=ih.2.1;unfold dZ at *;rw[VT]at *;rw[VS]at c;omega
   ·rcases Y1.mp hy with e|e
    ·rw[e];exact ih.2.1
    ·exact ih.2.2 y e
  ·rw[VQ c];have ih:=pT xs b;refine⟨ih.1.elim .inl λe=>.inr<|.tail _ e,ih.2.1,λy hy=>?_⟩;rcases Y1.mp hy with e|e
   ·rw[e];have:=ih.2.1;unfold dZ at *;rw[VT]at *;rw[VS]at c;omega
   ·exact ih.2.2 y e
def tF(h:A7 ps=Wb m):m∈ps/\∀x∈ps,dZ x m=We:=by
 cases ps with
 |nil=>cases h
 |cons x xs =>
  have e:me xs x=m:=Z4 h;subst e;have ih:=pT xs x;refine⟨ih.1.elim (λe=>by rw[e];exact .head _) λe=>.tail _ e,λy hy=>?_⟩;rcases Y1.mp hy with e|e
  ·rw[e];exact ih.2.1
  ·exact ih.2.2 y e
def wW(h:dZ a b=We)(k:dZ b a=We):a=b:=by unfold dZ at *;rw[VT]at *;exact Prod.ext (by omega) (by omega)
end Pu

namespace L2
open PySem PySem.Spec PyProof.Rows Pu
section
variable {prog:W7}{w:WB}{A:WE}{E:ZU}{s:Ww}{I S:Wy}{fp wr:Zy}{n:Nat}{P:Nat->Wx->Prop}{Sx:Nat->WD->Prop}{g:WD}{R:Vr->Ww->Prop}{bt:Zw}
abbrev Cd(g h:WD):Prop:=∀b o,g.get? b=Wb o->h.get? b=Wb o
def Cd.on(k:Cd g h)(fw:∀b∈wr,g.get? b=Wc)(fs:g.get? S=Wc)(q:∀b o,b∉wr->b≠S->h.get? b=Wb o->h'.get? b=Wb o):Cd g h':=λb o e =>
 q b o (λz=>nomatch (fw b z).symm.trans e) (λz=>nomatch (z▸fs).symm.trans e) (k b o e)
def minT_go(W:PySem.Walks prog w A.in1 I fp wr n P Sx)(nS:S∉fp)(fw:∀b∈wr,g.get? b=Wc)(fs:g.get? S=Wc)(ask:∀i j x y (s:Ww) (Q:ZU) (E:ZU),Cd g s.heap->P i x->P j y->Q (.bool<|bt i j) s->Wz (WA prog w) A.in1 (Vp .Lt x y) Q E s):
  ∀(k j:Nat) (s:Ww) (x:Wx) (c:Nat),j+1+k=n->Cd g s.heap->Sx (j+1) s.heap->P (Vd bt j) x->s.heap.get? S=Wb (VB "list" #[x,x] c) ->
   (∀v h' tk,P (Vd bt<|n-1) v->(∀b o,b∉wr->b≠S->s.heap.get? b=Wb o->h'.get? b=Wb o)->R (.ok<|.ret v) {s with heap:=h',toks:=tk}) ->
   D4 (WA prog w) A (.builtin "min.loop" ⟨[.ref I,.none,.ref S],[]⟩) R s:=by
 have nW:S∉wr:=λh=>nS<|W.sub _ h;have nm:(toString "min"++toString ".loop":String)="min.loop":=by decide
 intro k;induction k with
 |zero =>intro j s x c hj sg st px hS fin;have e:j+1=n:=hj;refine P2 N9<|R0 V9 _▸?_;show Wz _ A.in1 (seqItems? (.ref S) >>= _) _ _ _;refine Z0<|G4 hS rfl<|Z0<|M0 (W.done s _ _ (e▸st) λh' tk kp=>?_);have hS':=kp S _ nW hS;refine Z0<|J0 hS' rfl<|Z0<|D3<|Z8 ?_;refine fin x _ tk (by rw[<- e];exact px) λb o q1 q2 z=>?_;rw[W9 _ _ _ _ q2];exact kp b o q1 z
 |succ k ih =>
  intro j s x c hj sg st px hS fin;have lt:j+1<n:=by omega
  refine P2 N9<|R0 V9 _▸?_;show Wz _ A.in1 (seqItems? (.ref S) >>= _) _ _ _;refine Z0<|G4 hS rfl<|Z0<|M0 (W.item (j+1) s _ _ lt st λv h' tk pv st' kp=>?_);have hS':=kp S _ nW hS;have sg':Cd g h':=sg.on (S:=S) fw fs λb o q1 a z=>kp b o q1 z;show Wz _ A.in1 (tryCatch (WM [v,v]<|Vp .Lt v x >>= _) _ >>= _) _ _ _;refine Z0<|M0<|T7<|Z0<|ask (j+1) (Vd bt j) v x _ _ _ sg' pv px<|Z0<|T7<|R9<|Z0<|D3<|Z8 ?_;cases e:bt (j+1) (Vd bt j) with
  |true =>
   obtain⟨c2,hc2⟩:∃c2,(h'.update S (X0 λa=>#[v,v])).get? S=Wb (VB "list" #[v,v] c2):=⟨_,M7 hS' λa=>#[v,v]⟩;have kp2:∀b o,b∉wr->b≠S->s.heap.get? b=Wb o->(h'.update S (X0 λa=>#[v,v])).get? b=Wb o:=λb o q1 q2 z=>by rw[W9 _ _ _ _ q2];exact kp b o q1 z
   simp only[if_true];refine Z0<|J0 hS' rfl<|Z0<|D3 ?_;rw[nm];refine Z8 ⟨N1 V9 _,ih (j+1) _ v c2 (by omega) (sg.on fw fs kp2) (W.frame _ _ _ st' λb hb o z=>?_) (by simp only[Vd,e,if_true];exact pv) hc2 λv2 h2 tk2 p2 kp3=>?_⟩
   ·have nb:b≠S:=λq=>nS<|q▸hb;show (h'.update S (X0 λa=>#[v,v])).get? b=Wb o;rw[W9 _ _ _ _ nb];exact z
   ·exact fin v2 h2 tk2 p2 λb o q1 q2 z=>kp3 b o q1 q2<|kp2 b o q1 q2 z
  |false =>simp only[Q9,if_false];refine Z0<|D3 ?_;rw[nm];refine Z8 ⟨N1 V9 _,ih (j+1) _ x c (by omega) sg' st' (by simp only[Vd,e,Q9,if_false];exact px) hS' λv2 h2 tk2 p2 kp3=>?_⟩;exact fin v2 h2 tk2 p2 λb o q1 q2 z=>kp3 b o q1 q2<|kp b o q1 z
def A8{Wj:ZO}{Q:ZU}(hh:A.handled=Wc)(hl:s.heap.IsList l Wj.toArray)(ne:0<Wj.length)(ask:∀i j x y (s':Ww) (Q:ZU) (E:ZU),Cd s.heap s'.heap->Wj[i]?=Wb x->Wj[j]?=Wb y->Q (.bool<|bt i j) s'->Wz (WA prog w) A.in1 (Vp .Lt x y) Q E s')(fin:∀v h' tk,Wj[Vd bt (Wj.length-1)]?=Wb v->Cd s.heap h'->Q v {s with heap:=h',toks:=tk}):Wz (WA prog w) A (call (.builtin "min") [.ref l]) Q E s:=by
 have nm:(toString "min"++toString ".loop":String)="min.loop":=by decide
 have ll:l<s.heap.objs.size:=bN hl λo ho a=>Y4 ho;refine call_function_tree PySem.F.kind_min PySem.F.plain_min PySem.F.entry_min (PySem.F.args_min1 _) ?_;show Wz _ A.in1 (J3 "min" ["key","default"] 0 ⟨[],[]⟩ >>= _) _ _ s;refine Z0<|wpAny_of_eq (show J3 "min" ["key","default"] 0 ⟨[],[]⟩=pure [Wc,Wc] from rfl)<|Z0<|Z8 ?_;refine Z0<|Vb hl ?_;refine Z0<|E3 ?_<|U2 _;rw[nm];generalize eI:s.heap.objs.size=I9;have e9:(s.heap.push {cls:=.type "list_iterator",data:=.fields #[.ref l,.int 0 0]}).objs.size=I9+1:=by rw[<- eI];exact VF ..
 have gI:((s.heap.push {cls:=.type "list_iterator",data:=.fields #[.ref l,.int 0 0]}).push (VB "list" #[] 0)).get? I9=Wb {cls:=.type "list_iterator",data:=.fields #[.ref l,.int 0 0]}:=by rw[<- eI];exact Z2 _<|Y7 _ rfl
 have gS:((s.heap.push {cls:=.type "list_iterator",data:=.fields #[.ref l,.int 0 0]}).push (VB "list" #[] 0)).get? (I9+1)=Wb (VB "list" #[] 0):=by rw[<- e9];exact Y7 _ rfl
 have old:Cd s.heap ((s.heap.push {cls:=.type "list_iterator",data:=.fields #[.ref l,.int 0 0]}).push (VB "list" #[] 0)):=λb o e=>Z2 _<|Z2 _ e;have none_:∀b,I9<=b->s.heap.get? b=Wc:=λb hb=>by
  cases q:s.heap.get? b with
  |none=>rfl
  |some o=>exact VR (Y4 q)<|W5.mpr<|eI▸hb
 have lI:l≠I9:=eP<|eI▸ll;have W:=PySem.Walks.list (prog:=prog) (w:=w) (A:=A.in1) hh I9 l lI Wj.toArray;have hl2:((s.heap.push {cls:=.type "list_iterator",data:=.fields #[.ref l,.int 0 0]}).push (VB "list" #[] 0)).IsList l Wj.toArray:=(hl.push _).push _;have nS:I9+1∉[I9,l]:=λz=>by
  rcases Y1.mp z with z|z
  ·exact VR z<|Nat.succ_ne_self _
  ·have e:=Y0.mp z;have l2:l<I9:=cW ll<|bK eI;exact VR (e▸l2:I9+1<I9)<|W5.mpr<|R6 _
 refine Z8 ⟨N1 V9 _,?_⟩;rw[e9];refine P2 N9<|R0 V9 _▸?_;show Wz _ A.in1 (seqItems? (.ref<|I9+1) >>= _) _ _ _;have ne':0<Wj.toArray.size:=by rw[Y6];exact ne
 refine Z0<|G4 gS rfl<|Z0<|M0 (W.item 0 _ _ _ ne' ⟨⟨_,gI,rfl,rfl⟩,hl2⟩ λv h' tk pv st' kp=>?_);have hS':=kp (I9+1) _ (λz=>VR (Y0.mp z)<|Nat.succ_ne_self _) gS;obtain⟨c2,hc2⟩:∃c2,(h'.update (I9+1) (X0 λa=>#[v,v])).get? (I9+1)=Wb (VB "list" #[v,v] c2):=⟨_,M7 hS' λa=>#[v,v]⟩;have kp2:Cd s.heap (h'.update (I9+1) (X0 λa=>#[v,v])):=λb o z=>by have lt:b<I9:=eI▸Y4 z;rw[W9 _ _ _ _ (eP<|T6 lt)];exact kp b o (λq=>VR (Y0.mp q)<|eP lt)<|old b o z
 show Wz _ A.in1 (updateSeq (I9+1) (λa=>#[v,v]) >>= _) _ _ _;refine Z0<|J0 hS' rfl ?_;rw[nm];have at0:∀{i:Nat} {v:Wx},Wj.toArray[i]?=Wb v->Wj[i]?=Wb v:=λh=>by rw[List.getElem?_toArray]at h;exact h
 refine Z8 ⟨N1 V9 _,minT_go (n:=Wj.toArray.size) W nS (λb hb=>by rw[Y0.mp hb];exact none_ _<|bW _) (none_ _<|R6 _) (λi j x y s' Q E k h1 h2 q=>ask i j x y s' Q E k (at0 h1) (at0 h2) q) (Wj.toArray.size-1) 0 _ v c2 (by omega) kp2 (W.frame _ _ _ st' λb hb o z=>?_) pv hc2 λv2 h2 tk2 p2 kp3=>?_⟩
 ·have nb:b≠I9+1:=λq=>nS<|q▸hb;show (h'.update (I9+1) (X0 λa=>#[v,v])).get? b=Wb o;rw[W9 _ _ _ _ nb];exact z
 ·refine fin v2 h2 tk2 (by rw[Y6]at p2;exact at0 p2) λb o z=>?_;have lt:b<I9:=eI▸Y4 z;exact kp3 b o (λq=>VR (Y0.mp q)<|eP lt) (eP<|T6 lt)<|kp2 b o z
end
section
variable {X:Cx}{K:Z1}
def yF{bt:Zw}{k:Nat->Int×Int}(e:∀i j,bt i j=dZ (k i) (k j)):∀n,Vd bt n<=n/\∀j,j<=n->dZ (k j) (k<|Vd bt n)=We
 |0=>⟨bW _,λj hj=>by rw[Nat.le_zero.mp hj];show dZ (k 0) (k 0)=We;unfold dZ;rw[VT];omega⟩
 |n+1=>by
  have ih:=yF e n;unfold Vd;cases c:bt (n+1) (Vd bt n) with
  |true =>
   rw[VP rfl];rw[e]at c;refine⟨bW _,λj hj=>?_⟩;by_cases z:j=n+1
   ·rw[z];unfold dZ;rw[VT];omega
   ·have:=ih.2 j (by omega);unfold dZ at *;rw[VT]at *;rw[VS]at c;omega
  |false =>
   rw[VQ Z3];rw[e]at c;refine⟨K3 ih.1,λj hj=>?_⟩;by_cases z:j=n+1
   ·rw[z];exact c
   ·exact ih.2 j (by omega)
def rMinP(K:Z1):List V->Hp->VK->Prop:=λxs H Q=>∃p vs ps,xs=[.ref p]/\dj K H p vs/\Paired ((ga a7 a7).rel H) vs ps/\0<ps.length/\∀i v,vs[i]?=Wb v->i<ps.length->(∀j,j<ps.length->dZ (ps.getD j (0,0)) (ps.getD i (0,0))=We)->Q v H
def A9[Kn:Kon](h:X.K=K)(hc:X.calm=Wd)(hu:X.A.in1.units<WO):eG X (.builtin "min") (rMinP K):=by
 subst h;intro ZY s σ H xs us Q I r h;obtain⟨p,vs,ps,rfl,hS,hP,ne,q⟩:=h;obtain⟨u,rfl,ru⟩:=vals1 r;cases ru;obtain⟨Wj,rv,ht,hz⟩:=I.list hS;have pa:=aS.pairs I rv hP;have l1:=rv.length;have l2:=hP.length;have el:Wj.length=ps.length:=l1.symm.trans l2;have kp:∀{i:Nat} {x:Wx} {h':WD},Cd s.heap h'->Wj[i]?=Wb x->∃a o xs n t u,x=U6 a/\h'.get? a=Wb o/\o.cls=.type "tuple"/\o.data=.seq xs n/\xs=#[P3 (ps.getD i (0,0)).1 t,P3 (ps.getD i (0,0)).2 u]:=λ{i x h'} k e=>by
  obtain⟨y,ey,a,o,xs,n,t,u,e1,e2,e3,e4,e5⟩:=cY (pa.kept k) e;have e0:ps.getD i (0,0)=y:=by simp[ey]
  rw[e0];exact⟨a,o,xs,n,t,u,e1,e2,e3,e4,e5⟩
 refine A8 (bt:=λi j=>dZ (ps.getD i (0,0))<|ps.getD j (0,0)) (I.ok.hd hc) ht.isList (by rw[el];exact ne) (λi j x y s' Q' E' k e1 e2 hq=>?_) λv h' tk ev k=>?_
 ·obtain⟨a,o,xs,n,t,u,rfl,g1,g2,g3,rfl⟩:=kp k e1;obtain⟨a',o',xs',n',t',u',rfl,f1,f2,f3,rfl⟩:=kp k e2;refine HT.kE ⟨o,g1,g2,n,g3⟩ ⟨o',f1,f2,n',f3⟩ (.cons _ _<|.cons _ _ .nil) (.cons _ _<|.cons _ _ .nil) hu ?_;rw[pE];exact hq
 ·have b:=yF (bt:=λi j=>dZ (ps.getD i (0,0))<|ps.getD j (0,0)) (k:=λi=>ps.getD i (0,0)) (λc c=>rfl)<|Wj.length-1;generalize Vd (λi j=>dZ (ps.getD i (0,0))<|ps.getD j (0,0)) (Wj.length-1)=i at b ev;obtain⟨v0,hv0,rr⟩:=bO rv ev;exact⟨v0,H,I.kept k,rr,q i v0 hv0 (by omega) λj hj=>b.2 j (by omega)⟩
end
section
variable [Kn:Kon]{Γ:List Slot}{ta:TE}{K:Z1}
def ev_minP(h:EV Γ ta o (rL<|ga a7 a7)):EV Γ (qV (rMinP K)<|aK ta bL) (o.bind λns=>A7 ns) (ga a7 a7):=by
 intro C F σ H Q M S e k;obtain⟨ps,e1,e⟩:=a8 e;refine h C F σ H _ ps S e1 λv F' H' x1 ⟨p,vs,e2,h1,h2⟩=>⟨p,vs,ps,by rw[e2],.inl<|x1.sub.rd h1,Paired.imp2 (λa a z=>Rp.mono _ x1.sub z) h2,?_,λi v hv hi hm=>?_⟩
 ·cases ps with
  |nil=>cases e
  |cons x xs=>exact Nat.succ_pos _
 ·have mo:=tF e;have gi:ps.getD i (0,0)=ps[i]:=by simp[hi]
  have em:ps.getD i (0,0)=M:=by
   refine Pu.wW (mo.2 _ (by rw[gi];exact E9 _)) ?_;obtain⟨j,hj,ej⟩:=List.mem_iff_getElem.mp mo.1;have:=hm j hj;have gj:ps.getD j (0,0)=ps[j]:=by simp[hj]
   rw[gj,ej]at this;exact this
  obtain⟨y,ey,ry⟩:=cY h2 hv;have:y=M:=by rw[<- em,gi];exact((Z7 hi).symm.trans ey |> Z4).symm
  exact k v F' H' x1<|this▸ry
end
section
variable [Kn:Kon]{Γ:List Slot}{T α β:Type}{r:Rp α}{q:Rp β}{ta tb:TE}{oa:Option α}{ob:Option β}{u:TS}{fin:Fc->T->Ends->Prop}
def Ce{f:α->β->Option T}(i j:Nat)(ha:EV Γ ta oa r)(hb:EV Γ tb ob q)(h:∀a b,BV ((Γ.set i<|.fr r a).set j (.fr q b)) u (f a b) fin):BV Γ (bC (tPar i j<|aK ta<|aK tb bL) u) (oa.bind λa=>ob.bind λb=>f a b) fin:=by intro C F σ H D x S e k;obtain⟨a,e1,e⟩:=a8 e;obtain⟨b,e2,e⟩:=a8 e;exact ha C F σ H _ a S e1 λv F1 H1 x1 r1=>hb C F1 σ H1 _ b (S.grow x1) e2 λw F2 H2 x2 r2=>⟨v,w,rfl,h a b C F2 _ H2 D x ((((S.grow x1).grow x2).setF i (r.mono x2.ff r1)).setF j r2) e k⟩
end
def isInt(e:WC)(n:Int):Bool:=match e with
 |.Constant (.int i) _ _=>decide<|i=n
 |_=>We
def Cf:List WC->List Int->Bool
 |[],[]=>Wd
 |e ::es,n ::ns=>isInt e n&&Cf es ns
 |_,_=>We
def Aa{e:WC}{n:Int}(h:isInt e n=Wd):∃j p,e=.Constant (.int n) j p:=by
 unfold isInt at h;split at h
 ·exact⟨_,_,by rw[of_decide_eq_true h]⟩
 ·cases h
def tInts(ns:ZW):TA:=λx H Q=>Q (ns.map V.int) H
def pa_ints:∀{es:List WC} {ns:ZW},Cf es ns=Wd->PA X es (tInts ns):=by
 intro es;induction es with
 |nil =>
  intro ns h;cases ns with
  |nil=>exact eQ
  |cons _ _=>exact VR h Z3
 |cons e es ih =>
  intro ns h;cases ns with
  |nil=>exact VR h Z3
  |cons n ns =>have h:=(N3 _ _).mp h;exact oq21 (Aa h.1) λj p z=>z▸aa (aj (j:=j) (pos:=p)) (ih h.2)
def Cg[Kn:Kon](ns:ZW)(h:ns.length<=1000):iR Γ (tLst<|tInts ns) (Wb ns) a7:=by intro C F σ H Q xs S e k;cases e;exact⟨by rw[Z5,V0];omega,λq hq=>k q _ F H (Ext.refl S.sub) hq<|paired_ints _⟩
end L2

namespace Pu
def tG(ps:ZF):Option (List<|Int×Int):=if ps.length<1000000/\ps.Nodup then Wb (lY ps) else Wc
section
variable {α β γ δ ε:Type}{oa:Option α}{ob:Option β}{oc:Option γ}{od:Option δ}
def as2{F:α×β->Option ε}:(oa.bind λa=>ob.bind λb=>F (a,b))=(oa.bind λa=>ob.bind λb=>Wb (a,b)).bind F:=by cases oa<;>cases ob<;>rfl
def as3{F:α×β×γ->Option ε}:(oa.bind λa=>ob.bind λb=>oc.bind λc=>F (a,b,c))=(oa.bind λa=>(ob.bind λb=>oc.bind λc=>Wb (b,c)).bind λb=>Wb (a,b)).bind F:=by cases oa<;>cases ob<;>cases oc<;>rfl
def as4{F:α×β×γ×δ->Option ε}:(oa.bind λa=>ob.bind λb=>oc.bind λc=>od.bind λd=>F (a,b,c,d))=(oa.bind λa=>(ob.bind λb=>(oc.bind λc=>od.bind λd=>Wb (c,d)).bind λb'=>Wb (b,b')).bind λb=>Wb (a,b)).bind F:=by cases oa<;>cases ob<;>cases oc<;>cases od<;>rfl
end
end Pu

namespace L2
section
variable [Kn:Kon]{Γ:List Slot}{α:Type}{r:Rp α}{ta:TE}
def nV.cast(h:nV Γ ta o r)(e:o'=o):nV Γ ta o' r:=e▸h
end
open PySem PyProof.Rows
section
variable [Kn:Kon]{Γ:List Slot}{a b c d e f g h:Slot}{α:Type}{r:Rp α}{x:α}
def aA:EV (.fr r x ::Γ) (bf 0) (Wb x) r:=ai 0 rfl
def aI:EV (a :: .fr r x ::Γ) (bf 1) (Wb x) r:=ai 1 rfl
def bp:EV (a ::b :: .fr r x ::Γ) (bf 2) (Wb x) r:=ai 2 rfl
def de:EV (a ::b ::c :: .fr r x ::Γ) (bf 3) (Wb x) r:=ai 3 rfl
def cF:EV (a ::b ::c ::d :: .fr r x ::Γ) (bf 4) (Wb x) r:=ai 4 rfl
def eA:EV (a ::b ::c ::d ::e :: .fr r x ::Γ) (bf 5) (Wb x) r:=ai 5 rfl
def jy:EV (a ::b ::c ::d ::e ::f :: .fr r x ::Γ) (bf 6) (Wb x) r:=ai 6 rfl
def gf:EV (a ::b ::c ::d ::e ::f ::g :: .fr r x ::Γ) (bf 7) (Wb x) r:=ai 7 rfl
def i0:EV (a ::b ::c ::d ::e ::f ::g ::h :: .fr r x ::Γ) (bf 8) (Wb x) r:=ai 8 rfl
end
section
variable [Kn:Kon]{X:Cx}{k:Nat}{x:Str}{ps:ZL}{sp:Sp}{e:WC}{es:List WC}{p pos Ws:Pos}
def ar{t:TA}(G:iu X.prog X.w X.K X.mg X.base k x ps sp)(ha:PA X (e ::es) t)(hr:Room k X.A:=by refine Room.mono (by assumption) (by decide))(hg:autoParam (Gl X x) cV._auto_1)(hdb:autoParam ((x==("__debug__":Str))=We) gR._auto_1)(he:autoParam (X5 (e ::es) X.env=(We,WF e X.env) ::X5 es X.env) cV._auto_1)(hpl:autoParam ((WI pos<|X5 es X.env).any (·.1)=We) cV._auto_1):PE X (.Call (.Name x p) (e ::es) [] pos) (lB sp [] E0 t):=p8 G hr hg ha hdb he hpl
def av(i:Nat){te:TE}(he:PE X e te)(hN:X.N.Nodup:=by first|assumption|exact of_decide_eq_true (by kernel_rfl))(hi:autoParam (X.N[i]?=Wb x) cV._auto_1)(hx:Loc X.env.scope x:=by first|exact Or.inl rfl|exact Or.inr rfl)(hs:autoParam (Vt e (Wb<|.Name x Ws) pos.line X.env=pure We) cV._auto_1)(hf:X.fn x=Wd\/X.env.scope.names.lookup x=Wb .local:=by first|exact .inl rfl|exact .inr rfl|assumption):PS X (.Assign [.Name x Ws] e pos) (ie te<|du i):=AE hN hi hx he hs hf
def aw(i:Nat)(hN:X.N.Nodup:=by first|assumption|exact of_decide_eq_true (by kernel_rfl))(hi:autoParam (X.N[i]?=Wb x) cV._auto_1)(hx:Loc X.env.scope x:=by first|exact Or.inl rfl|exact Or.inr rfl)(hf:X.fn x=Wd\/X.env.scope.names.lookup x=Wb .local:=by first|exact .inl rfl|exact .inr rfl|assumption):PG X (.Name x pos) (du i):=pg_name hN hi hx hf
end
section
open PySem.Spec
def i3(CL:Wy):Rp (List (List Int)×Int):=⟨λH v x=>∃m dm vf,v=.ref m/\H m=Wb (.ins CL dm [("floor",vf),("reach",.int x.2)])/\rF.rel H vf x.1,λe ⟨m,dm,vf,h1,h2,h3⟩=>⟨m,dm,vf,h1,e _ _ h2,rF.mono e h3⟩⟩
structure LK(K:Z1)(CL:Wy):Prop where
 c:Cls K CL
 floor:cy K CL "floor"
 reach:cy K CL "reach"
variable [Kn:Kon]
section
variable {Γ:List Slot}{ta:TE}{K:Z1}{CL:Wy}{o:Option (List (List Int)×Int)}
theorem i4(k:LK K CL)(h:EV Γ ta o (i3 CL)):EV Γ (gD K ta "floor") (o.bind λx=>Wb x.1) rF:=eT h λH v x ⟨m,dm,vf,h1,h2,h3⟩=>⟨m,CL,dm,_,vf,h1,h2,k.c,k.floor,rfl,h3⟩
theorem j7(k:LK K CL)(h:EV Γ ta o (i3 CL)):EV Γ (gD K ta "reach") (o.bind λx=>Wb x.2) a7:=eT h λH v x ⟨m,dm,vf,h1,h2,h3⟩=>⟨m,CL,dm,_,.int x.2,h1,h2,k.c,k.reach,by rfl,rfl⟩
theorem vt{m:Str}(h2:autoParam ((m=="floor")=We) gR._auto_1)(h3:autoParam ((m=="reach")=We) gR._auto_1):Ob (i3 CL) CL m:=λH v x ⟨a,dm,vf,e1,e2,e3⟩=>⟨a,dm,_,e1,e2,by simp[O8,h2,h3]⟩
end
def Ci(CL:Wy)(f:List (List Int)->Option (List<|List Int)):Sp:=λvs H Q a=>∃F x dx vf ZZ Wf fl,vs=[.ref x,vf,.int Wf]/\aL F H/\NT F/\TbG H/\F x=Wc/\H x=Wb (.ins CL dx [])/\rF.rel F vf ZZ/\f ZZ=Wb fl /\
 ∀u G F' H',Fr ⟨del H x,F,F⟩ F' H'->F' x=Wc->aL G F'->(∀b o,G b=Wb o->H b=Wc)->H' x=Wb (.ins CL dx [("floor",u),("reach",.int Wf)])->rF.rel G u fl->Q .non H'
def init_L{K:Z1}{CL:Wy}(k:LK K CL){f:List (List Int)->Option (List<|List Int)}{tc:TE}(hc:∀ZZ Wf,nV [.any,.fr rF ZZ,.fr a7 Wf] tc (f ZZ) rNN){vs:List V}{H:Hp}{Q:VK}{E:XK}{N:ZL}(hN:N.length=3)(h:Ci CL f vs H Q E):
  (bC (lA K (bf 0) tc "floor")<|lA K (bf 0) (bf 2) "reach") {nx:=λa H'=>Q .non H',rt:=Q} (start N vs) H:=by
 obtain⟨F,x,dx,vf,ZZ,Wf,fl,rfl,sb,nt,tg,hFx,hx,hvf,hf,q⟩:=h;have es:start N [.ref x,vf,.int Wf]=[Wb (.ref x),Wb vf,Wb (.int Wf)]:=by unfold start;simp[hN]
 rw[es];have SS:SR ⟨H,F,F⟩ F [.any,.fr rF ZZ,.fr a7 Wf] [Wb (.ref x),Wb vf,Wb (.int Wf)] H :=
  ⟨⟨Sm.refl _,aL.refl _,sb,λb o h=>.inl h,nt,tg⟩,rfl,jU trivial<|jU ⟨vf,rfl,hvf⟩<|jU ⟨_,rfl,rfl⟩ nofun,λi j s t p h1 h2 o1 o2 a a=>(BX rfl h1 o1).elim⟩
 refine hc ZZ Wf _ F _ H _ fl SS hf λu G F' H3 x1 sG fG ru=>?_;have h3x:H3 x=Wb (.ins CL dx []):=x1.hh.kp _ _ trivial hx;have F'x:F' x=Wc:=x1.offI hFx hx;refine rC rfl h3x k.c k.floor (by decide) ?_;refine⟨.int Wf,rfl,rC (fs:=[("floor",u)]) rfl ae k.c k.reach (show 1<1000 by decide) ?_⟩;rw[rY];have tg6:TbG (aB H3 x<|.ins CL dx<|dN "reach" (.int Wf) [("floor",u)]):=(x1.hh.tg tg).pokI trivial h3x;refine q u G F' _ ⟨⟨λb o n e=>?_,λb ps e=>?_,λa=>tg6⟩,x1.ff,λb o e=>?_,λb o e=>?_,x1.nt nt,tg6⟩ F'x sG fG (by rw[ae];rfl)<|le_ld (le_ln C2) ru
 ·obtain⟨n1,e⟩:=b7 e;exact ci n1<|x1.hh.kp b o n e
 ·obtain⟨n1,e⟩:=b7 e;obtain⟨more,e3⟩:=x1.hh.tb b ps e;exact⟨more,ci n1 e3⟩
 ·exact ci (ag e F'x)<|x1.sub b o e
 ·rcases x1.nw b o e with z|z
  ·exact .inl z
  ·refine .inr ?_;show zC (del H x b);by_cases y:b=x
   ·rw[y,bR];trivial
   ·rw[b0 y];exact z
section
variable {Γ:List Slot}{CL:Wy}{t:TA}{f:List (List Int)->Option (List<|List Int)}
theorem Cj{τ:Type}{ra:RpA τ}{oa:Option τ}{dvs:List V}{g:τ->List (List Int)}{z:τ->Int}(hd:∀F vs a,ra.rel F vs a->∃vf,vs++dvs=[vf,.int (z a)]/\rF.rel F vf (g a))(ha:EA Γ t oa ra):
  nV Γ (ki CL (Ci CL f) dvs E0 t) (oa.bind λa=>(f<|g a).bind λfl=>Wb (fl,z a)) (i3 CL):=by
 intro C F σ H Q c S e k;obtain⟨a,e1,e⟩:=a8 e;obtain⟨fl,e2,e⟩:=a8 e;cases e;refine ha C F σ H _ a S e1 λvs F1 H1 x1 r1=>?_;obtain⟨vf,ev,r2⟩:=hd F1 vs a r1;have S1:=S.grow x1;intro w dx hw hdx nd;rw[ev];have Fw:F1 w=Wc:=S1.sub.free hw;have Fd:F1 dx=Wc:=S1.sub.free hdx;refine⟨F1,w,dx,vf,g a,z a,fl,rfl,λb o z=>ci (ag z Fw)<|ci (ag z Fd)<|S1.sub b o z,S1.nt,?_,Fw,ae,r2,e2,λu G F' H' fr f1 sG fG q1 q2=>⟨rfl,?_⟩⟩
 ·exact(S1.tg.pokN (p:=dx) (o:=.own w) trivial hdx).pokN trivial ((ah<|V8 nd).trans hw)
 have ext:Ext F1 H1 (aB F' w<|.ins CL dx [("floor",u),("reach",.int (z a))]) H':=by
  have k2:∀b o,H1 b=Wb o->del (aB (aB H1 dx<|.own w) w<|.ins CL dx []) w b=Wb o:=λb o z=>(b0<|ag z hw).trans (ci (ag z hw)<|ci (ag z hdx) z);refine⟨⟨λb o n z=>fr.keep.kp b o n<|k2 b o z,λb ps z=>fr.keep.tb b ps<|k2 b _ z,λx=>fr.tg⟩,λb o z=>have z:=fr.low b o z;ci (ag z f1) z,λb o z=>gZ z (λe1 e2=>e1▸e2▸q1) λx z=>fr.sub b o z,λb o z=>gZ z (λe x=>.inr<|nB<|e▸hw) λn z=>(fr.base b o z).imp id λy=>?_,λx=>iW fr.nt trivial⟩;replace y:zC (del (aB (aB H1 dx<|.own w) w<|.ins CL dx []) w b):=y;rw[b0 n,ah n]at y;by_cases bd:b=dx
  ·rw[bd,ae]at y;exact y.elim
  ·rw[ah bd]at y;exact y
 have gw:G w=Wc:=sG.free f1;refine k (.ref w) (aB G w<|.ins CL dx [("floor",u),("reach",.int (z a))]) _ H' (x1.trans ext) (λb o y=>gZ y (λe1 e2=>e1▸e2▸ae) λn y=>ci n<|sG b o y) (λb o y=>gZ y (λe1 x=>x1.hh.free<|e1▸hw) λn y=>x1.hh.free ?_) ⟨w,dx,u,rfl,ae,rF.mono (λb o y=>ci (ag y gw) y) q2⟩;have y2:=fG b o y;rw[ah n]at y2;by_cases bd:b=dx
 ·rw[bd,ae]at y2;cases y2
 ·rwa [ah bd]at y2
theorem Ab{oa:Option (List (List Int)×Int)}(ha:EA Γ t oa (ay rF<|bo a7)):nV Γ (ki CL (Ci CL f) [] E0 t) (oa.bind λa=>(f a.1).bind λfl=>Wb (fl,a.2)) (i3 CL) :=
 Cj (ra:=ay rF<|bo a7) (g:=(·.1)) (z:=(·.2)) (λF vs a ⟨vf,us,e1,r,v2,e2,r3⟩=>⟨vf,by subst e1 e2;cases r3;rfl,r⟩) ha
theorem xB{oa:Option (List<|List Int)}(ha:EA Γ t oa (bo rF)):nV Γ (ki CL (Ci CL f) [.int 4] E0 t) (oa.bind λa=>(f a).bind λfl=>Wb (fl,4)) (i3 CL) :=
 Cj (ra:=bo rF) (g:=id) (z:=λx=>4) (λF vs a ⟨v2,e2,r3⟩=>⟨v2,by subst e2;rfl,r3⟩) ha
end
def FunD(K:Z1)(qual:Str)(st:WH)(fa:Wy)(fd:Vm):Prop:=∃(oc:Wx) (od:Zz) (dV kV Wu pm:Wx) (an:Zz) (ZP ct:Wx) (osl:Zm),
  fd=T5 "__init__" qual (bU st) (bb st) (ao st) dV kV Wu pm an ZP ct/\K.lookup fa=Wb ⟨oc,od,.func fd,osl⟩/\N8 K ZP qual=Wd
def tH(K:Z1)(mg:ZM)(x:Str)(C:Wy)(qual:Str)(st:WH)(ps:ZL)(dv:Int):Prop:=∃fa fd,FunD K qual st fa fd/\Mk K C fa/\Binds K fd ps []/\(∃dw,RelV (.int dv) dw/\Binds K fd ps [dw])/\mg x=Wb (.ref C)
def HasL(P:W7)(w:WB)(K:Z1)(mg:ZM)(base:WD)(k:Nat)(x:Str)(C:Wy)(ps:ZL)(dv:Int)(sp:Sp):Prop :=
 ∃fa fd,FnOk P w K mg base sH k fa fd ps sp/\Mk K C fa/\Binds K fd ps []/\(∃dw,RelV (.int dv) dw/\Binds K fd ps [dw])/\mg x=Wb (.ref C)
section
variable {P:W7}{w:WB}{K:Z1}{mg:ZM}{base:WD}{x qual:Str}{st:WH}{N ps:ZL}{k:Nat}{C:Wy}{dv:Int}
def tH.has{sp:Sp}(D:tH K mg x C qual st ps dv)(S:FnScope N ps (ao st))(len:∀vs H Q E,sp vs H Q E->vs.length=ps.length)(Wv:∀(f:Wy) (ZP:Wx) (A:WE) (outer:List Env) (s:Ww) (H:Hp) (vs:List V) (Q:VK) (E:XK),Room k (A.deeper<|VD qual (ao st) s.heap.objs.size f ZP)->sp vs H Q E ->
   ∃t,nQ (lD sH P w K mg base N qual (ao st) f ZP A outer s H E).nox (bb st) t/\t {nx:=λa H'=>Q .non H',rt:=Q} (start N vs) H):HasL P w K mg base (k+1) x C ps dv sp:=by
 obtain⟨fa,fd,⟨oc,od,dV,kV,Wu,pm,an,ZP,ct,osl,rfl,lk,hcd⟩,hm,b,b2,hg⟩:=D;refine⟨fa,_,AR lk hcd S len λA outer s H vs Q E hr hsp=>?_,hm,b,b2,hg⟩;obtain⟨t,h,q⟩:=Wv fa ZP A outer s H vs Q E hr hsp;exact⟨t,h.nox,q⟩
section
variable {X:Cx}{sp:Sp}{t:TA}{e:WC}{es:List WC}{p pos:Pos}
def Ck(G:HasL X.prog X.w X.K X.mg X.base k x C ps dv sp)(hr:Room (k+1) X.A)(hg:Gl X x)(ha:PA X (e ::es) t)(hdb:autoParam ((x==("__debug__":Str))=We) gR._auto_1)(he:autoParam (X5 (e ::es) X.env=(We,WF e X.env) ::X5 es X.env) cV._auto_1)(hpl:autoParam ((WI pos<|X5 es X.env).any (·.1)=We) cV._auto_1):PE X (.Call (.Name x p) (e ::es) [] pos) (ki C sp [] E0 t):=by obtain⟨f,fd,F,hm,hb,_,hg'⟩:=G;exact sw hm F hr hg hg' hb .nil qX ha hdb he hpl
def Ac(G:HasL X.prog X.w X.K X.mg X.base k x C ps dv sp)(hr:Room (k+1) X.A)(hg:Gl X x)(ha:PA X (e ::es) t)(hdb:autoParam ((x==("__debug__":Str))=We) gR._auto_1)(he:autoParam (X5 (e ::es) X.env=(We,WF e X.env) ::X5 es X.env) cV._auto_1)(hpl:autoParam ((WI pos<|X5 es X.env).any (·.1)=We) cV._auto_1):PE X (.Call (.Name x p) (e ::es) [] pos) (ki C sp [.int dv] E0 t):=by obtain⟨f,fd,F,hm,_,⟨dw,rw_,hb⟩,hg'⟩:=G;exact sw hm F hr hg hg' hb (.cons rw_ .nil) qX ha hdb he hpl
end
end
section
variable {Γ:List Slot}{α γ:Type}{r:Rp α}{q:Rp γ}{ta:TE}{C:Wy}{m:Str}{o:Option α}
def Ad{f:α->Option (List γ)}(ob:Ob r C m)(h:EV Γ ta o r):iR Γ (fF C m (pf (bo r) q f) [] E0 ta bL) (o.bind f) q:=by intro C F σ H Q c S e k;obtain⟨x,e1,e⟩:=a8 e;refine h C F σ H _ x S e1 λv F' H' x1 r1=>?_;obtain⟨ad,dx,fs,h1,h2,h3⟩:=ob F' v x r1;exact⟨ad,dx,fs,h1,x1.sub _ _ h2,h3,F',x,c,x1.sub,x1.nt S.nt,x1.hh.tg S.tg,⟨v,rfl,r1⟩,e,λp ws F3 H3 x3 hp r3=>k p ws F3 H3 (x1.trans x3) hp r3⟩
def rH{f:α->Option γ}(ob:Ob r C m)(h:EV Γ ta o r):nV Γ (fF C m (spG (bo r) q f) [] E0 ta bL) (o.bind f) q:=by intro C F σ H Q c S e k;obtain⟨x,e1,e⟩:=a8 e;refine h C F σ H _ x S e1 λv F' H' x1 r1=>?_;obtain⟨ad,dx,fs,h1,h2,h3⟩:=ob F' v x r1;exact⟨ad,dx,fs,h1,x1.sub _ _ h2,h3,F',x,c,x1.sub,x1.nt S.nt,x1.hh.tg S.tg,⟨v,rfl,r1⟩,e,λu G F3 H3 x3 s3 f3 r3=>k u G F3 H3 (x1.trans x3) s3 (λb u z=>x1.hh.free<|f3 b u z) r3⟩
end
section
variable {w:WB}{K:Z1}{mg:ZM}{base:WD}{m:Str}{ps:ZL}{k:Nat}{C:Wy}
def mV{X:Cx}{sp:Sp}{ta:TE}{o:WC}{Wq pos:Pos}{pl:Sem Bool}(G:ii X.prog X.w X.K X.mg X.base k C m ps sp)(he:PE X o ta)(c:Cls X.K C)(hr:Room k X.A)(ht:WF (.Call (.Attribute o m Wq) [] [] pos) X.env=(do
   let ov <- WF o X.env
   Vk Wq.atName
   let (f,first) <- WM [ov] (Vu ov m pl)
   callWith pos f first (WI pos<|X5 [] X.env) (Vv pos<|WW [] X.env)):=by rfl):
  PE X (.Call (.Attribute o m Wq) [] [] pos) (fF C m sp [] E0 ta bL):=by
 obtain⟨f,fd,F,hm,hb⟩:=G;exact AO he c hm F hr hb .nil qX ht
end
def l_mk{K:Z1}{mg:ZM}{h:WD}{x qual:Str}{C f:Wy}{st:WH}{ps:ZL}{oc:Wx}{od an:Zz}{osl:Zm}{kV Wu pm ZP ct:Wx}{T:Wy}{dv:Int}{dw toc:Wx}{tod:Zz}{n:Nat}{tsl:Zm}(X:K.In h)(G:h.Ns S6 mg)(a:PySem.W.nsIn K S6 x=Wb (Wb<|.ref C))(i:P0 K (.ref C) "__init__"=Wb (Wb<|.ref f))(l:K.lookup f=Wb ⟨oc,od,.func<|T5 "__init__" qual (bU st) (bb st) (ao st) (.ref T) kV Wu pm an ZP ct,osl⟩)(c:N8 K ZP qual=Wd)(hf:PySem.W.isFn K (.ref f)=Wd)(mk:PySem.W.makesIn K C=Wd)(kc:P1 K (.ref C)=Wd)(lt:K.lookup T=Wb ⟨toc,tod,.seq #[dw] n,tsl⟩)(rv:RelV (.int dv) dw)(hb0:∀(kV Wu pm:Wx) (an:Zz) (ZP ct:Wx) (us:ZO),us.length=ps.length->∃k,E8 (T5 "__init__" qual (bU st) (bb st) (ao st) (.ref T) kV Wu pm an ZP ct) ⟨us,[]⟩=seqItems? (.ref T) >>= k/\k (Wb #[dw])=pure (ps.zip us))(hb:∀(kV Wu pm:Wx) (an:Zz) (ZP ct:Wx) (us:ZO),us.length+1=ps.length->∃k,E8 (T5 "__init__" qual (bU st) (bb st) (ao st) (.ref T) kV Wu pm an ZP ct) ⟨us,[]⟩=seqItems? (.ref T) >>= k/\k (Wb #[dw])=pure (ps.zip<|us++[dw])):tH K mg x C qual st ps dv :=
 ⟨f,_,⟨_,_,_,_,_,_,_,_,_,_,rfl,l,c⟩,⟨mk,i,hf,kc⟩,λs us Y hl=>by
  rw[V2]at hl ⊢;obtain⟨k,h1,h2⟩:=hb0 kV Wu pm an ZP ct us hl;exact PySem.W.binds_K Y rfl lt rfl h1 h2,⟨dw,rv,λs us Y hl=>by
  obtain⟨k,h1,h2⟩:=hb kV Wu pm an ZP ct us (by simpa using hl);exact PySem.W.binds_K Y rfl lt rfl h1 h2⟩,PySem.W.mg_of X G a⟩
section
variable {Γ:List Slot}{T:Type}{K:Z1}{u tl:TS}{g:TG}{sp:Sp}{fin:Fc->T->Ends->Prop}{φ:ZJ}{ws:ZW}
def bv_forQ{b1 b2:Nat}{f:Int->List Int->Option T}(i:Nat)(hi:Γ[i]?=Wb (.ol a7 φ ws))(h:∀a ys,BV (Γ.set i<|.ol a7 φ ys) (bC (ub (lz K<|lB sp [] E0<|aK (bf b1)<|aK (bf b2)<|aK (tC<|.int a) bL) g tl) u) (f a ys) fin):
  BV Γ (bC (ub (lz K<|lB sp [] E0<|aK (bf b1)<|aK (bf b2)<|aK (zm K "list" rPop (bf i)) bL) g tl) u) (ws.getLast?.bind λa=>f a ws.dropLast) fin:=by
 intro C F σ H D x S e k;obtain⟨a,e1,e⟩:=a8 e;obtain⟨_,h1,p,vs,rfl,h2,h3,h4,h5,h6⟩:=S.at_ i _ hi;obtain⟨v,g1,g2,g3⟩:=nE h6 e1;cases g2;obtain⟨v1,q1,v2,q2,q⟩:=h a _ C F _ _ D x (S.chg (s':=.ol a7 φ ws.dropLast) hi rfl h1 h3 h4 rfl ⟨p,_,rfl,h2,h3,h4,ae,g3⟩) e k;exact⟨v1,q1,v2,q2,.ref p,h1,.inl ⟨rfl,_,dj.of h5⟩,p,vs,_,rfl,rfl,h5,g1,q⟩
end
end
section
open PySem.Spec
def rQ(q:Wy):Rp (Option<|List Int):=⟨λH v x=>match x with|none=>v=.ref q|some row=>(rL a7).rel H v row,λ{_ _ _ a} e h=>by
 cases a with
 |none=>exact h
 |some x=>exact(rL a7).mono e h⟩
def qs(ZZ:ZX)(k:Nat):List (Option<|List Int):=(ZZ.map Wb).set k Wc
def q_some{q:Wy}{F:Hp}:∀{ZZ:ZX} {us:List V},Paired ((rQ q).rel F) us (ZZ.map Wb)->Paired ((rL a7).rel F) us ZZ:=by
 intro ZZ;induction ZZ with
 |nil=>intro us h;cases h;exact .nil
 |cons r t ih=>intro us h;cases h with|cons a b=>exact .cons a<|ih b
def q_fill{q:Wy}{F:Hp}{ws:List V}{row:ZW}(hq:Rd F q (.lst ws))(hw:Paired (a7.rel F) ws row):∀{ZZ:ZX} {us:List V} {k:Nat},Paired ((rQ q).rel F) us (qs ZZ k)->Paired ((rL a7).rel F) us (ZZ.set k row):=by
 intro ZZ;induction ZZ with
 |nil=>intro us k h;cases h;exact .nil
 |cons r t ih =>
  intro us k h;cases k with
  |zero =>
   cases h with
   |cons a b =>obtain rfl:=a;exact .cons ⟨q,ws,rfl,hq,hw⟩<|q_some b
  |succ k =>
   cases h with
   |cons a b=>exact .cons a<|ih b
def q_mk{q p:Wy}{G F:Hp}(hs:∀b o,b≠q->b≠p->G b=Wb o->F b=Wb o):∀{ZZ:ZX} {us:List V} {k:Nat},Paired ((rLn a7).rel G) us ZZ->.ref p∉us->us.Nodup->us[k]?=Wb (.ref q)->Paired ((rQ q).rel F) us (qs ZZ k):=by
 have one:∀{v:V} {row:ZW},v≠.ref q->v≠.ref p->(rLn a7).rel G v row->(rL a7).rel F v row:=λn n' ⟨p,vs,e,h,w⟩=>⟨p,vs,e,Rd.of<|hs p _ (λz=>n<|e.trans<|congrArg V.ref z) (λz=>n'<|e.trans<|congrArg V.ref z) h,Paired.imp2 (λx x z=>z) w⟩;have all:∀{ZZ:ZX} {us:List V},Paired ((rLn a7).rel G) us ZZ->.ref p∉us->.ref q∉us->Paired ((rQ q).rel F) us (ZZ.map Wb):=by
  intro ZZ us h;induction h with
  |nil=>exact λx x=>.nil
  |cons a b ih=>exact λn' n=>.cons (one (λz=>n<|z▸Y5 ..) (λz=>n'<|z▸Y5 ..) a) (ih (λz=>n'<|Y8 _ z) λz=>n<|Y8 _ z)
 intro ZZ us k h;induction h generalizing k with
 |nil=>exact λx x e=>nomatch e
 |cons a b ih =>
  intro np nd e;obtain⟨n1,n2⟩:=M5.mp nd;cases k with
  |zero =>obtain rfl:=Z4 e;exact .cons rfl<|all b (λz=>np<|Y8 _ z) n1
  |succ k=>exact .cons (one (λz=>n1<|z▸X6 e) (λz=>np<|z▸Y5 ..) a)<|ih (λz=>np<|Y8 _ z) n2 e
variable [Kn:Kon]
section
variable {Γ:List Slot}{C:Fc}{F H:Hp}{σ:St}{q:Wy}{i g k:Nat}{row:ZW}{ZZ:ZX}{φ:ZJ}
abbrev brQ(Γ:List Slot)(i g:Nat)(ZZ:ZX):List Slot:=(Γ.set g .any).set i (.fr rLL ZZ)
def SR.borQ(S:SR C F Γ σ H)(hi:Γ[i]?=Wb (.ol (rQ q) φ<|qs ZZ k))(hg:Γ[g]?=Wb (.ol a7 (λb=>b=q) row))(Wr:g≠i):
  ∃p ws us,F q=Wc/\H q=Wb (.lst ws)/\F p=Wc/\H p=Wb (.lst us)/\p≠q/\SR C (aB (aB F q<|.lst ws) p<|.lst us) (brQ Γ i g<|ZZ.set k row) σ H:=by
 obtain⟨_,h1,p',ws,rfl,rfl,h3,h4,h5,h6⟩:=S.at_ g _ hg;obtain⟨_,k1,p,us,rfl,_,k3,k4,k5,k6⟩:=S.at_ i _ hi;have ne:p≠p':=λz=>Wr<|S.inj g i _ _ p' hg hi rfl rfl h1<|z▸k1;have S1:=S.freeze hg p' _ .any rfl rfl h1 h3 h4 h5 trivial trivial;have hi':(Γ.set g .any)[i]?=Wb (.ol (rQ p') φ<|qs ZZ k):=by rw[bM Wr];exact hi
 have F2:aB F p' (.lst ws) p=Wc:=(ah ne).trans k4;have e1:aL F (aB F p'<|.lst ws):=aE h4;have e2:aL (aB F p'<|.lst ws) (aB (aB F p'<|.lst ws) p<|.lst us):=aE F2;exact⟨p,ws,us,h4,h5,k4,k5,ne,S1.freeze hi' p _ _ rfl rfl k1 k3 F2 k5 ⟨_,rfl,p,us,rfl,Rd.of ae,q_fill (Rd.of<|e2 _ _ ae) (Paired.imp2 (λx x z=>z) h6)<|Paired.imp2 (λx x z=>(rQ p').mono (e1.trans e2) z) k6⟩ trivial⟩
section
variable {β:Type}{s:Rp β}{tb:TE}{ob:Option β}
def yG(i g:Nat)(hi:Γ[i]?=Wb (.ol (rQ q) φ<|qs ZZ k))(hg:Γ[g]?=Wb (.ol a7 (λb=>b=q) row))(Wr:g≠i)(fl:Flat s)(h:EV (brQ Γ i g<|ZZ.set k row) tb ob s):EV Γ tb ob s:=by intro C F σ H Q b S e kk;obtain⟨p,ws,us,h1,h2,h3,h4,ne,S'⟩:=S.borQ hi hg Wr;refine h C _ σ H Q b S' e λv F' H' x1 r1=>?_;obtain⟨x2,h5,h6⟩:=m7 h1 h2 h3 h4 ne x1;exact kk v _ H' x2<|fl h6 trivial<|fl h5 trivial r1
def tI{t:TT}{o:Option Bool}(i g:Nat)(hi:Γ[i]?=Wb (.ol (rQ q) φ<|qs ZZ k))(hg:Γ[g]?=Wb (.ol a7 (λb=>b=q) row))(Wr:g≠i)(h:ET (brQ Γ i g<|ZZ.set k row) t o):ET Γ t o:=by intro C F σ H Q b S e kk;obtain⟨p,ws,us,h1,h2,h3,h4,ne,S'⟩:=S.borQ hi hg Wr;refine h C _ σ H Q b S' e λF' H' x1=>?_;obtain⟨x2,h5,h6⟩:=m7 h1 h2 h3 h4 ne x1;exact kk _ H' x2
def vw(i g:Nat)(hi:Γ[i]?=Wb (.ol (rQ q) φ<|qs ZZ k))(hg:Γ[g]?=Wb (.ol a7 (λb=>b=q) row))(Wr:g≠i)(h:nV (brQ Γ i g<|ZZ.set k row) tb ob s):nV Γ tb ob s:=by
 intro C F σ H Q b S e kk;obtain⟨p,ws,us,h1,h2,h3,h4,ne,S'⟩:=S.borQ hi hg Wr;refine h C _ σ H Q b S' e λv G F' H' x1 sG fG r1=>?_;obtain⟨x2,h5,h6⟩:=m7 h1 h2 h3 h4 ne x1;refine kk v G _ H' x2 (λb u z=>?_) fG r1;rw[b0,b0]
 ·exact sG b u z
 ·rintro rfl;rw[fG _ _ z]at h4;cases h4
 ·rintro rfl;rw[fG _ _ z]at h2;cases h2
def Cm{K:Z1}(i g:Nat)(hi:Γ[i]?=Wb (.ol (rQ q) φ<|qs ZZ 0))(hg:Γ[g]?=Wb (.ol a7 (λb=>b=q) row))(hk:ZZ≠[]):jv Γ (iQ (wt K) (bf i)<|tC<|.int 0) g:=λC F σ H Q v S hv kk=>by
 obtain⟨_,h1,p',ws,rfl,rfl,h3,h4,h5,h6⟩:=S.at_ g _ hg;rw[hv]at h1;cases h1;obtain⟨_,k1,p,us,rfl,_,k3,k4,k5,k6⟩:=S.at_ i _ hi;cases ZZ with
 |nil=>exact VR rfl hk
 |cons r t =>
  cases k6 with
  |cons a b =>obtain rfl:=a;refine⟨.ref p,k1,p,_,0,_,rfl,rfl,dj.of k5,?_,kk⟩;unfold xW k9;rw[VP (by exact Int.le_refl _),VP (by simp)];rfl
def q_last{F:Hp}:∀{ZZ:ZX} {us:List V},ZZ≠[]->Paired ((rQ q).rel F) us (qs ZZ<|ZZ.length-1)->∃ms,us=ms++[.ref q]:=by
 intro ZZ;induction ZZ with
 |nil=>exact λh=>VR rfl h
 |cons r t ih =>
  intro us _ h;cases t with
  |nil =>
   cases h with
   |cons a b=>cases b;obtain rfl:=a;exact⟨[],rfl⟩
  |cons r2 t2 =>
   cases h with
   |@cons v x vs' xs a b =>obtain⟨ms,rfl⟩:=ih (by simp) b;exact⟨v ::ms,rfl⟩
def own_ql{K:Z1}{tk:TE}(i g:Nat)(htk:tk=tUn (rU λi=>.int<|-i) (tC<|.int 1))(hi:Γ[i]?=Wb (.ol (rQ q) φ<|qs ZZ<|ZZ.length-1))(hg:Γ[g]?=Wb (.ol a7 (λb=>b=q) row))(hk:ZZ≠[]):jv Γ (iQ (wt K) (bf i) tk) g:=λC F σ H Q v S hv kk=>by subst htk;obtain⟨_,h1,p',ws,rfl,rfl,h3,h4,h5,h6⟩:=S.at_ g _ hg;rw[hv]at h1;cases h1;obtain⟨_,k1,p,us,rfl,_,k3,k4,k5,k6⟩:=S.at_ i _ hi;obtain⟨ms,rfl⟩:=q_last hk k6;exact⟨.ref p,k1,1,rfl,p,_,-1,_,rfl,rfl,dj.of k5,at_end1 _ _,kk⟩
end
section
variable {T:Type}{te:TE}{u:TS}{fin:Fc->T->Ends->Prop}{K:Z1}
def yH{oa:Option (List<|List Int)}{f:List (List Int)->List Int->Option T}(kk:List (List Int)->Nat)(i g:Nat)(Wr:i≠g/\i<Γ.length/\g<Γ.length)(he:nV Γ te oa rNN)(h:∀q ZZ row,ZZ[kk ZZ]?=Wb row->BV ((Γ.set i<|.ol (rQ q) jj<|qs ZZ<|kk ZZ).set g (.ol a7 (λb=>b=q) row)) u (f ZZ row) fin):BV Γ (bC (ie te<|du i)<|yA g u) (oa.bind λZZ=>ZZ[kk ZZ]?.bind λrow=>f ZZ row) fin:=by
 intro C F σ H D x S e k;obtain⟨ZZ,e1,e⟩:=a8 e;obtain⟨row,e2,e⟩:=a8 e;refine he C F σ H _ ZZ S e1 λv G F' H' x1 sG fG ⟨p,vs,ev,hp,nd,pr⟩=>?_;subst ev;obtain⟨vq,hvq,q,ws,rfl,hq,hw⟩:=bO pr e2;have pv:.ref p∉vs:=λz=>by obtain⟨j,hj⟩:=List.getElem?_of_mem z;obtain⟨_,_,p',ws',z1,z2,z3⟩:=cY pr hj;cases z1;rw[hp]at z2;cases z2;obtain⟨_,_,y⟩:=cY z3 hvq;cases y
 have pq:p≠q:=λz=>pv<|z▸X6 hvq;have Hq:H q=Wc:=fG q _ hq;have Hp:H p=Wc:=fG p _ hp;have x2:Ext F H (del (del F' q) p) H':=by refine⟨x1.hh,λb o z=>?_,λb o z=>x1.sub b o (b7 (b7 z).2).2,λb o z=>x1.nw b o (b7 (b7 z).2).2,λz b ps w=>x1.nt z b ps (b7 (b7 w).2).2⟩;rw[b0 (ag z<|S.sub.free Hp),b0 (ag z<|S.sub.free Hq)];exact x1.ff b o z
 have S1:=S.grow x2;have S2:=S1.setG (p:=p) (s:=.ol (rQ q) jj<|qs ZZ<|kk ZZ) i rfl ⟨p,vs,rfl,trivial,S.keep.free Hp,bR,x1.sub _ _<|sG p _ hp,q_mk (p:=p) (λb o n n' z=>by rw[b0 n',b0 n];exact sG b o z) pr pv nd hvq⟩ λj t z1 z2 z3=>S.np Hp z1 z2 z3
 have S3:=S2.setG (p:=q) (s:=.ol a7 (λb=>b=q) row) g rfl ⟨q,ws,rfl,rfl,S.keep.free Hq,(b0<|V8 pq).trans bR,x1.sub _ _<|sG q _ hq,Paired.imp2 (λa a z=>z) hw⟩ (tw i S1.len (λj t z1 z2 z3=>S.np Hq z1 z2 z3) λa z=>pq<|V.ref.inj<|Z4 z);exact⟨.ref q,h q ZZ row e2 C _ _ H' D x S3 e k⟩
def vx{oa:Option (List<|List Int)}{f:List (List Int)->List Int->Option T}(i g:Nat)(Wr:i≠g/\i<Γ.length/\g<Γ.length)(he:nV Γ te oa rNN)(h:∀q (ZZ:ZX) row,ZZ[0]?=Wb row->BV ((Γ.set i<|.ol (rQ q) jj<|qs ZZ 0).set g (.ol a7 (λb=>b=q) row)) u (f ZZ row) fin):BV Γ (bC (ie te<|du i)<|yA g u) (oa.bind λZZ=>ZZ[0]?.bind λrow=>f ZZ row) fin:=yH (λx=>0) i g Wr he h
def Co{oa:Option (List<|List Int)}{f:List (List Int)->List Int->Option T}(i g:Nat)(Wr:i≠g/\i<Γ.length/\g<Γ.length)(he:nV Γ te oa rNN)(h:∀q (ZZ:ZX) row,ZZ[ZZ.length-1]?=Wb row->BV ((Γ.set i<|.ol (rQ q) jj<|qs ZZ<|ZZ.length-1).set g (.ol a7 (λb=>b=q) row)) u (f ZZ row) fin):BV Γ (bC (ie te<|du i)<|yA g u) (oa.bind λZZ=>ZZ[ZZ.length-1]?.bind λrow=>f ZZ row) fin:=yH (λZZ=>ZZ.length-1) i g Wr he h
def q_ne{n:Nat}(h:ZZ[n]?=Wb row):ZZ≠[]:=λz=>by subst z;cases h
def bv_frzQ{o:Option T}(i g:Nat)(hi:Γ[i]?=Wb (.ol (rQ q) φ<|qs ZZ k))(hg:Γ[g]?=Wb (.ol a7 (λb=>b=q) row))(Wr:g≠i)(h:BV (brQ Γ i g<|ZZ.set k row) u o fin):BV Γ u o fin:=by intro C F σ H D x S e kk;obtain⟨p,ws,us,h1,h2,h3,h4,ne,S'⟩:=S.borQ hi hg Wr;exact h C _ σ H D x S' e kk
def Ae{o:Option T}{xs:List (Option<|List Int)}(i g:Nat)(hi:Γ[i]?=Wb (.ol (rQ q) φ xs))(h:BV (Γ.set i<|.ol (rL a7) jj []) u o fin):BV Γ (bC (nk<|zm K "list" wz (bf i)) u) o fin:=by intro C F σ H D x S e kk;obtain⟨_,h1,p,vs,rfl,h2,h3,h4,h5,h6⟩:=S.at_ i _ hi;exact⟨.ref p,h1,.inl ⟨rfl,vs,dj.of h5⟩,p,vs,rfl,rfl,h5,h C F σ _ D x (S.chg hi rfl h1 h3 h4 rfl ⟨p,_,rfl,trivial,h3,h4,ae,.nil⟩) e kk⟩
set_option tactic.hygienic true in
def xC{oa:Zi}{f:Option T}(i:Nat)(hi:Γ[i]?=Wb (.ol (rQ q) φ<|qs ZZ k))(he:EV Γ te oa (rL a7))(h:BV (Γ.set i .any) u f fin):
  BV Γ (bC (nk<|tBM K "list" sE (bf i) (aK te bL)) u) (oa.bind λa=>(Pu.app ZZ a).bind λb=>f) fin:=by
 have he':EV Γ te (oa.bind λa=>Wb<|some a) (rQ q):=by intro C F σ H Q c S e kk;obtain⟨a,e1,e⟩:=a8 e;cases e;exact he C F σ H Q a S e1 λv F' H' x1 r1=>kk v F' H' x1 r1
 intro C F σ H D x S e kk;obtain⟨a,e1,e⟩:=a8 e;obtain⟨ys,e2,e⟩:=a8 e;refine dh (f:=λb=>f) (u:=u) (fin:=fin) i hi he' (λys=>?_) C F σ H D x S (by
  rw[e1];show (Pu.app (qs ZZ k)<|some a).bind _=_;unfold Pu.app at e2 ⊢;split at e2
  ·rename_i hl;rw[VP (by unfold qs;rw[T1,Z5];exact hl)];exact e
  ·cases e2) kk
 intro C F σ H D x S e kk;obtain⟨F2,f2,S2⟩:=S.weak1 (i:=i) (s:=.ol (rQ q) φ ys) (s':=.any) (by rw[N5 (Z6.mp hi).1]) .any;rw[List.set_set]at S2;exact h C F2 σ H D x S2 e kk
end
end
def tPar3(i j k:Nat)(ta:TA):TS:=λD σ H=>ta σ H λvs H1=>∃u v w,vs=[u,v,w]/\D.nx (((σ.set i<|some u).set j (Wb v)).set k (Wb w)) H1
section
variable {X:Cx}{pos:Pos}
def ps_par3{i j k:Nat}{x y z:Str}{a b c:WC}{ta:TA}{px py pz pt:Pos}{kt k2 pt2}(hc:X.calm=Wd)(hN:X.N.Nodup)(hi:X.N[i]?=Wb x)(hj:X.N[j]?=Wb y)(hk:X.N[k]?=Wb z)(hij:i≠j/\i≠k/\j≠k)(hx:X.env.scope.names.lookup x=Wb .local)(hy:X.env.scope.names.lookup y=Wb .local)(hz:X.env.scope.names.lookup z=Wb .local)(ha:PA X [a,b,c] ta)(hw:swappedStores [.Tuple [.Name x px,.Name y py,.Name z pz] kt pt] (.Tuple [a,b,c] k2 pt2) X.env=pure (Wb [x,y,z]))(hs:autoParam (swapsWithSole [.Tuple [.Name x px,.Name y py,.Name z pz] kt pt] (.Tuple [a,b,c] k2 pt2) pos.line X.env=pure We) cV._auto_1):
  PS X (.Assign [.Tuple [.Name x px,.Name y py,.Name z pz] kt pt] (.Tuple [a,b,c] k2 pt2) pos) (tPar3 i j k ta):=by
 intro ZY s σ H D I h;rw[exec_Assign_arm];refine Z0<|WJ ?_;rw[hs];refine Z0<|Z8 ?_;rw[VQ (by decide)];refine Z0<|Tuple_ (bI (ha _ ZY s σ H _ I h) λus s1 ⟨vs,H1,I1,r1,q1⟩=>?_);obtain⟨v,w,v3,e1,q1⟩:=q1;subst e1;obtain⟨u1,u2,u3,rfl,rv,rw',r3⟩:∃u1 u2 u3,us=[u1,u2,u3]/\RelV v u1/\RelV w u2/\RelV v3 u3:=by
  cases r1 with
  |cons p q =>
   cases q with
   |cons p' q' =>
    cases q' with
    |cons p2 q2 =>cases q2;exact⟨_,_,_,rfl,p,p',p2⟩
 refine O6 ?_ (by show 3<=W0;decide);have I2:Inv X ZY σ H1 {s1 with heap:=s1.heap.push {cls:=.type "tuple",data:=.seq [u1,u2,u3].toArray}}:=I1.kept (t':=s1.toks) λb o e=>Z2 _ e;rw[hw];refine Z0<|Z8 ?_;show Wz (WA X.prog X.w) X.A (do rule "assign.swapped-stores";let items <- unpackItems (.ref s1.heap.objs.size) 3 Wc;Vf [λv=>WZ X.env z v,λv=>WZ X.env y v,λv=>WZ X.env x v] items.reverse;pure Flow.next) _ _ _;refine Z0<|Vl<|Z0 (unpackItems_tuple (items:=#[u1,u2,u3]) (I.ok.hd hc) (IsTup.new s1.heap _) λh' hx'=>?_);have I3:=I2.kept (h':=h') (t':=s1.toks) λb o e=>hx' b o (eP<|Y4 e) e;show Wz _ _ (Vf [λv=>WZ X.env z v,λv=>WZ X.env y v,λv=>WZ X.env x v] [u3,u2,u1] >>= λt=>pure Flow.next) _ _ _;refine Z0<|G1<|Va<|gY I3 hN hk (.inl hz) r3 (λs2 I4=>?_)<|.inr hz;refine G1<|Va<|gY I4 hN hj (.inl hy) rw' (λs3 I5=>?_)<|.inr hy;refine G1<|Va<|gY I5 hN hi (.inl hx) rv (λs4 I6=>VJ<|Z8 ?_)<|.inr hx;rw[List.set_comm _ _ (V8 hij.2.2),List.set_comm _ _ (V8 hij.2.1),List.set_comm _ _ (V8 hij.1)]at I6;exact⟨_,H1,I6,q1⟩
end
def vy(sp:Sp):Prop:=∀vs H (Q Q':VK) E,(∀v H,Q v H->Q' v H)->sp vs H Q E->sp vs H Q' E
def mono_L{τ γ:Type}{ra:RpA τ}{r:Rp γ}{f:τ->Option (List γ)}:vy (pf ra r f):=λ_ _ _ _ _ m ⟨F,a,c,h1,h2,h3,h4,h5,q⟩=>⟨F,a,c,h1,h2,h3,h4,h5,λp vs F' H' x hp rv=>m _ _<|q p vs F' H' x hp rv⟩
def Cp{τ γ:Type}{ra:RpA τ}{r:Rp γ}{f:τ->Option γ}:vy (spG ra r f):=λ_ _ _ _ _ m ⟨F,a,c,h1,h2,h3,h4,h5,q⟩=>⟨F,a,c,h1,h2,h3,h4,h5,λv G F' H' x s g rv=>m _ _<|q v G F' H' x s g rv⟩
section
variable {Γ:List Slot}{T:Type}{u:TS}{fin:Fc->T->Ends->Prop}{o:Option T}
def bv_seq3{c1 c2 c3:Wy}{m1 m2 m3:Str}{s1 s2 s3:Sp}(i j k g1 g2 l:Nat)(hl:l≠i/\l≠j/\l≠g1)(hg:g1≠j/\g1≠k)(M1:vy s1)(M2:vy s2)(M3:vy s3)(h:BV Γ (bC (ie (fF c1 m1 s1 [] E0 (bf l) bL)<|du i)<|yA g1<|bC (ie (fF c2 m2 s2 [] E0 (bf l) bL)<|du j)<|bC (ie (fF c3 m3 s3 [] E0 (bf l) bL)<|du k)<|yA g2 u) o fin):
  BV Γ (bC (tPar3 i j k<|aK (fF c1 m1 s1 [] E0 (bf l) bL)<|aK (fF c2 m2 s2 [] E0 (bf l) bL)<|aK (fF c3 m3 s3 [] E0 (bf l) bL) bL)<|yA g1<|yA g2 u) o fin:=by
 intro C F σ H D x S e kk;obtain⟨v,e1,a,dx,fs,rfl,ha,hf,q⟩:=h C F σ H D x S e kk;have f1:∀w1 v1,((σ.set i<|some w1).set g1 (Wb v1))[l]?=σ[l]?:=λw1 v1=>by rw[P9 (V8 hl.2.2),P9 (V8 hl.1)]
 have f2:∀w1 v1 w2,(((σ.set i<|some w1).set g1 (Wb v1)).set j (Wb w2))[l]?=σ[l]?:=λw1 v1 w2=>by rw[P9 (V8 hl.2.1),f1]
 refine⟨.ref a,e1,a,dx,fs,rfl,ha,hf,M1 _ _ _ _ _ (λw1 H1 q1=>?_) q⟩;obtain⟨v1,v',e2,a2,dx2,fs2,rfl,ha2,hf2,q2⟩:=q1;rw[f1]at e2;refine⟨.ref a2,e2,a2,dx2,fs2,rfl,ha2,hf2,M2 _ _ _ _ _ (λw2 H2 q2=>?_) q2⟩;obtain⟨v'',e3,a3,dx3,fs3,rfl,ha3,hf3,q3⟩:=q2;rw[f2]at e3;refine⟨.ref a3,e3,a3,dx3,fs3,rfl,ha3,hf3,M3 _ _ _ _ _ (λw3 H3 q3=>?_) q3⟩;obtain⟨v2,q4⟩:=q3;refine⟨w1,w2,w3,rfl,v1,v2,?_⟩;rw[List.set_comm _ _ (V8 hg.2),List.set_comm _ _ (V8 hg.1)];exact q4
end
def rHA{τ:Type}(ra:RpA τ):Rp τ:=⟨λH v x=>∃p vs,v=.ref p/\H p=Wb (.lst vs)/\ra.rel H vs x,λe ⟨p,vs,h1,h2,h3⟩=>⟨p,vs,h1,e _ _ h2,ra.mono e h3⟩⟩
def IxA{τ β:Type}(ra:RpA τ)(i:Nat)(s:Rp β)(π:τ->β):Prop:=∀{F vs x},ra.rel F vs x->∃w,vs[i]?=Wb w/\s.rel F w (π x)
section
variable {Γ:List Slot}{τ α β:Type}{ra:RpA τ}{r:Rp α}{s:Rp β}{t:TA}{ta:TE}{oτ:Option τ}{K:Z1}{i:Nat}{π:τ->β}
def Cq:IxA (ay r ra) 0 r (·.1):=λ⟨v,ws,e,h,_⟩=>⟨v,by rw[e];rfl,h⟩
def kP(h:IxA ra i s π):IxA (ay r ra) (i+1) s λx=>π x.2:=λ⟨v,ws,e,_,g⟩=>by obtain⟨w,h1,h2⟩:=h g;exact⟨w,by rw[e];exact h1,h2⟩
def ixA1:IxA (bo r) 0 r λx=>x:=λ⟨v,e,h⟩=>⟨v,by rw[e];rfl,h⟩
def ev_lstA(hn:∀a,(ra.slots a).length<=1000)(h:EA Γ t oτ ra):EV Γ (tLst t) oτ (rHA ra):=λC F σ H Q c S e k=>h C F σ H _ c S e λvs F' H' x1 r1=>⟨by rw[(ra.ok r1).1];exact aO (hn c) (by decide),λp hp=>by have e:=aE (o:=.lst vs)<|x1.sub.free hp;exact k _ _ _ (x1.trans<|Ext.new x1.sub hp) ⟨p,vs,rfl,ae,ra.mono e r1⟩⟩
def mW(i:Nat)(hx:IxA ra i s π)(h:EV Γ ta oτ (rHA ra)):EV Γ (iQ (wt K) ta<|tC<|.int i) (oτ.bind λx=>Wb<|π x) s:=λC F σ H Q c S e k=>by obtain⟨x,e1,e⟩:=a8 e;cases e;refine h C F σ H _ x S e1 λv F' H' x1 ⟨p,vs,e2,h1,h2⟩=>?_;obtain⟨w,h3,h4⟩:=hx h2;refine⟨p,vs,i,w,e2,rfl,dj.of<|x1.sub _ _ h1,?_,k w F' H' x1 h4⟩;unfold xW k9;rw[VP (Int.natCast_nonneg _),VP (by exact U5.mpr (Z6.mp h3).1)];exact h3
end
end
open PySem.Spec
section
variable [Kn:Kon]{P:W7}{w:WB}{K:Z1}{mg:ZM}{base:WD}{x m:Str}{st:WH}{ps:ZL}{k:Nat}{c C:Wy}{τ γ:Type}{ra:RpA τ}{f:τ->Option γ}{fin:Fc->γ->Ends->Prop}{sp:Sp}
def Cr(sp:Sp)(ra:RpA τ)(f:τ->Option γ)(fin:Fc->γ->Ends->Prop):Prop :=
 ∀vs H Q E,sp vs H Q E->∃F a c,aL F H/\NT F/\TbG H/\ra.rel F vs a/\f a=Wb c/\fin ⟨H,F,F⟩ c {nx:=λx H'=>Q .non H',rt:=Q}
def eW{r:Rp γ}:Cr (nD ra r f) ra f (nT r):=λ_ _ _ _ ⟨F,a,c,sb,nt,tg,h,e,q⟩=>⟨F,a,c,sb,nt,tg,h,e,λv F' H' fr=>q v F' H' ⟨fr.keep,fr.low,fr.sub,fr.base,λx=>fr.nt⟩⟩
def fL{γ:Type}{f:τ->Option (List γ)}{r:Rp γ}:Cr (pf ra r f) ra f (finL r):=λ_ _ _ _ ⟨F,a,c,sb,nt,tg,h,e,q⟩=>⟨F,a,c,sb,nt,tg,h,e,λp vs F' H' fr=>q p vs F' H' ⟨fr.keep,fr.low,fr.sub,fr.base,λx=>fr.nt⟩⟩
def spx_D{γ:Type}{f:τ->Option (List<|Int×γ)}{r:Rp γ}:Cr (spD ra r f) ra f (finD r):=λ_ _ _ _ ⟨F,a,c,sb,nt,tg,h,e,q⟩=>⟨F,a,c,sb,nt,tg,h,e,λp vs F' H' fr=>q p vs F' H' ⟨fr.keep,fr.low,fr.sub,fr.base,λx=>fr.nt⟩⟩
def vz{r:Rp γ}:Cr (spG ra r f) ra f (finG r):=λ_ _ _ _ ⟨F,a,c,sb,nt,tg,h,e,q⟩=>⟨F,a,c,sb,nt,tg,h,e,λv G F' H' fr=>q v G F' H' ⟨fr.keep,fr.low,fr.sub,fr.base,λx=>fr.nt⟩⟩
def Cr.len(y:Cr sp ra f fin)(hl:∀a,(ra.slots a).length=ps.length){vs H Q E}(h:sp vs H Q E):vs.length=ps.length :=
 let ⟨_,_,_,_,_,_,h1,_⟩:=y vs H Q E h
 (ra.ok h1).1.trans (hl _)
abbrev yI(P:W7)(w:WB)(K:Z1)(mg:ZM)(base:WD)(x:Str)(st:WH)(N:ZL)(k n:Nat)(ra:RpA τ)(f:τ->Option γ)(fin:Fc->γ->Ends->Prop)(fa:Wy)(ZP:Wx):Prop :=
 ∀{A:WE} {outer:List Env} {s:Ww} {H:Hp} {E:XK},N.Nodup->Room k (A.deeper<|VD x (ao st) s.heap.objs.size fa ZP)->(A.deeper<|VD x (ao st) s.heap.objs.size fa ZP).units+1<WO->∃t,nQ (lD sH P w K mg base N x (ao st) fa ZP A outer s H E).nox (bb st) t/\∀a,BV (ra.slots a++U8 n .any) t (f a) fin
def Cr.run(y:Cr sp ra f fin){N:ZL}(S:FnScope N ps (ao st))(hl:∀a,(ra.slots a).length=ps.length){fa:Wy}{ZP:Wx}(h:yI P w K mg base x st N k (N.length-ps.length) ra f fin fa ZP){A:WE}{outer:List Env}{s:Ww}{H:Hp}{vs:List V}{Q:VK}{E:XK}(hr:Room k (A.deeper<|VD x (ao st) s.heap.objs.size fa ZP))(hs:sp vs H Q E):∃t,nQ (lD sH P w K mg base N x (ao st) fa ZP A outer s H E).nox (bb st) t/\t {nx:=λb H'=>Q .non H',rt:=Q} (start N vs) H :=
 let ⟨t,h1,h2⟩:=h S.nd hr (jd hr)
 let ⟨F,a,c,sb,nt,tg,h3,hf,q⟩:=y vs H Q E hs
 ⟨t,h1,h2 a _ F _ H _ c (SR.begin_ sb nt tg h3 (by rw[(ra.ok h3).1,hl])) hf q⟩
def bv.q(D:bv K mg x st ps)(y:Cr sp ra f fin)(N:ZL)(h:∀{fa:Wy} {ZP:Wx},yI P w K mg base x st N k (N.length-ps.length) ra f fin fa ZP)(hl:∀a,(ra.slots a).length=ps.length:=by exact λb=>rfl)(S:FnScope N ps (ao st):=by o_shape):iu P w K mg base (k+1) x ps sp :=
 D.has S (λb b b b h=>y.len hl h) λb b b b b b b b b hr hs=>y.run S hl h hr hs
def kN.q(D:kN K mg x st ps c)(y:Cr sp ra f fin)(N:ZL)(h:∀{fa:Wy},yI P w K mg base x st N k (N.length-ps.length) ra f fin fa (.ref c))(hl:∀a,(ra.slots a).length=ps.length:=by exact λb=>rfl)(S:FnScope N ps (ao st):=by o_shape):iu P w K mg base (k+1) x ps sp :=
 D.has S (λb b b b h=>y.len hl h) λb b b b b b b b hr hs=>y.run S hl h hr hs
def bG.q{qual:Str}(D:bG K C m qual st ps)(y:Cr sp ra f fin)(N:ZL)(h:∀{fa:Wy} {ZP:Wx},yI P w K mg base qual st N k (N.length-ps.length) ra f fin fa ZP)(hl:∀a,(ra.slots a).length=ps.length:=by exact λx=>rfl)(S:FnScope N ps (ao st):=by o_shape):ii P w K mg base (k+1) C m ps sp :=
 D.has S (λx x x x h=>y.len hl h) λx x x x x x x x x hr hs=>y.run S hl h hr hs
end
section
variable [Kn:Kon]{X:Cx}{e:WC}{te:TE}
def af(ha:PE X e te)(hs:autoParam (X5 [e] X.env=[(We,WF e X.env)]) cV._auto_1):PA X [e] (aK te bL):=aa ha eQ hs
end
section
variable [Kn:Kon]{Γ Γ':List Slot}{a b c d:Slot}
def gA(h:SubL Γ Γ'):SubL (a ::b ::Γ) (a ::b ::Γ'):=fj<|fj h
def dJ(h:SubL Γ Γ'):SubL (a ::b ::c ::d ::Γ) (a ::b ::c ::d ::Γ'):=gA<|gA h
end
end L2

namespace Pf
open PySem L2 Pu
def eU(a:Zp)(b:Int)(c:Int):Option (List Int) :=
 (mI c a.2).bind λd=>(fmod c a.2).bind λe=>(Wb (if (decide<|b=8)=Wd then 2 else 1)).bind λf=>(uD (Pu.mx 0<|d-1)<|Pu.mn a.1<|d+2).bind λx17=>(bB (λs9 x8=>(uD (Pu.mx 0<|e-1)<|Pu.mn a.2<|e+2).bind λx16=>(bB (λs11 x10=>if (decide (0<(ab<|x8-d)+(ab<|x10-e))&&decide ((ab<|x8-d)+(ab<|x10-e)<=f))=Wd then ((mul x8 a.2).bind λx12=>Wb<|x12+x10).bind λx15=>(Pu.app s11 x15).bind λg=>Wb (g) else Wb (s11)) x16 s9).bind λs11=>Wb<|s11) x17<|[]).bind λs9=>Wb<|s9
def gJ(a:ZW)(p_k:Int):Option Int :=
 if (decide<|p_k<ln a)=Wd then Pu.at_ a p_k else Wb (0)
def tJ(a:ZX):Option (List Int) :=
 (bB (λs3 x2=>(CY s3 x2).bind λb=>Wb<|b) a<|[]).bind λs3=>Wb<|s3
def next(a:Zp)(b:Int)(c:Int):Option (List Int) :=
 (Wb<|a).bind λt2=>(bB (λs5 x4=>(bB (λs7 x6=>((mI c t2.2).bind λx8=>Wb<|x8+x4).bind λd=>((fmod c t2.2).bind λx11=>Wb<|x11+x6).bind λe=>(Wb<|(decide (0<=d)&&decide (d<t2.1))&&(decide (0<=e)&&decide (e<t2.2))).bind λf=>if (f&&((decide<|((ab x4)+(ab x6))=1) || ((decide<|b=8)&&(decide<|((ab x4)+(ab x6))=2))))=Wd then ((mul d t2.2).bind λx17=>Wb<|x17+e).bind λx20=>(Pu.app s7 x20).bind λg=>Wb (g) else Wb (s7)) ([-1,0,1]) s5).bind λs7=>Wb<|s7) ([-1,0,1])<|[]).bind λs5=>Wb<|s5
def size_of(a:ZX):Option ((Int×Int)) :=
 (if (!a.isEmpty)=Wd then (Pu.at_ a 0).bind λx1=>Wb (ln x1) else Wb (0)).bind λb=>Wb<|(ln a,b)
def eX(a:ZX)(b:Int):Option Int :=
 ((size_of a).bind λx1=>Wb<|x1.2).bind λc=>((mI b c).bind λx4=>Pu.at_ a x4).bind λx5=>(fmod b c).bind λx6=>Pu.at_ x5 x6
def cQ(a:ZX)(b:Int):Option ((Int×Int)) :=
 (eX a b).bind λx1=>Wb<|(x1,b)
def da(a:ZX)(b:Int)(c:Int):Option (Bool) :=
 (cQ a b).bind λx1=>(cQ a c).bind λx2=>Wb<|dZ x1 x2
def jV(a:ZX)(b:Int)(c:Int)(d:Int):Option (List<|Int×Option Int) :=
 (size_of a).bind λe=>(nC (λs5=>Wb<|!s5.2.isEmpty) (λs5=>pop0 s5.2 λf g=>(eU e b f).bind λx18=>(bB (λs10 x9=>(if (!(find s10.1 x9).isSome)=Wd then (da a d x9).bind λx11=>Wb (!x11) else Wb We).bind λx17=>if x17=Wd then if (s10.1).length<16777216 then (λh=>(Pu.app s10.2 x9).bind λi=>Wb<|(h,i)) (Pu.put s10.1 x9<|some<|f) else Wc else Wb ((s10.1,s10.2))) x18 (s5.1,g)).bind λs10=>Wb<|(s10.1,s10.2)) 100000 ([(c,Wc)],[c])).bind λs5=>Wb<|s5.1
def bY(a:ZX)(b:Int)(c:Int)(d:Int):Option (List Int) :=
 (da a d c).bind λx2=>if x2=Wd then Wb ([]) else (jV a b c d).bind λx1=>sortI<|x1.map (·.1)
def di(a:ZX):Option (List Int) :=
 (size_of a).bind λb=>(mul b.1 b.2).bind λx3=>lrng x3
def dF(a:ZX):Option (List Int) :=
 (di a).bind λx2=>yy (λc1=>cQ a c1) x2
def jW(a:ZX):Option (List<|Option Int) :=
 (di a).bind λx1=>Pu.comp (λ_y2=>Wb (Wc:ZK)) x1
def bH(a:Wa)(b:Int):Option (List Int) :=
 ((size_of a.1).bind λx1=>eU x1 a.2.1 b).bind λc=>bJ (λy4=>(Pu.at_ a.2.2.1 y4).bind λx5=>Wb<|x5.isSome) (λy4=>(Pu.at_ a.2.2.1 y4).bind λx6=>x6) c
def ck(a:List (List Int)×c6)(b:Int):Option Int :=
 (nC (λs2=>Wb<|(find a.2 s2).isSome) (λs2=>(((find a.2 s2).bind λx3=>Wb<|x3.2).bind λx5=>x5).bind λc=>Wb<|c) 100000 b).bind λs2=>Wb<|s2
def eY(a:ZX)(b:ZW):Option Int :=
 BS (λc1=>cQ a c1) b
def cx(a:List (List Int)×c6)(b:ZW)(c:Int):Option (Int×c6) :=
 (Pu.comp (λy1=>ck a y1) b).bind λd=>(eY a.1 d).bind λe=>(bB (λs5 x4=>if (!decide (x4=e))=Wd then if s5.length<16777216 then Wb (Pu.put s5 x4 (Wb c,Wb e)) else Wc else Wb s5) d a.2).bind λs5=>Wb (e,s5)
def cR(a:Wa)(b:Int):Option (List (Option Int)×c6) :=
 (bH a b).bind λc=>(if (!c.isEmpty)=Wd then cx (a.1,a.2.2.2) c b else Wb (b,a.2.2.2)).bind λx=>(k9 a.2.2.1.length b).bind λj=>Wb (a.2.2.1.set j<|some x.1,x.2)
def fT(a:ZX)(b:Int)(d:ZW):Option (Wa) :=
 (jW a).bind λe=>(bB (λs3 x2=>(cR (a,b,s3.1,s3.2) x2).bind λc=>Wb (c.1,c.2)) d (e,[])).bind λs=>Wb (a,b,s.1,s.2)
def eN(a:List (List Int)×c6)(b:ZW):Option (List<|(Int×(Option Int)×(Option Int))) :=
 Pu.comp (λy1=>Wb<|((y1),((find a.2 y1).getD (Wc,Wc)).1,((find a.2 y1).getD (Wc,Wc)).2)) b
def oE(a:ZX)(b:Int):Option (List<|(Int×(Option Int)×(Option Int))) :=
 (dF a).bind λc=>(fT a b c).bind λd=>(bJ (λy5=>(Pu.at_ d.2.2.1 y5).bind λx6=>Wb<|decide<|x6=Wb y5) (λy5=>Wb<|y5) c).bind λx7=>eN (d.1,d.2.2.2) x7
def vA(a:ZX)(b:Int):Option (List<|Option Int) :=
 ((dF a).bind λx1=>fT a b x1).bind λx2=>Wb<|x2.2.2.1
def aV(a:List (List Int)×c6)(b:ZK):Option (Option Int) :=
 (nC (λs2=>Wb<|(uW a.2 s2).isSome) (λs2=>(((s2).bind λx3=>find a.2 x3).bind λx4=>Wb<|x4.2).bind λc=>Wb<|c) 100000 b).bind λs2=>Wb<|s2
def bS(a:List (List Int)×c6)(b:ZW)(c:Int):Option (Int×c6) :=
 (Pu.comp (λy1=>(aV a<|some y1).bind λx=>x) b).bind λd=>(eY a.1 d).bind λe=>(bB (λs5 x4=>if (!decide (x4=e))=Wd then if s5.length<16777216 then Wb (Pu.put s5 x4 (Wb c,Wb e)) else Wc else Wb s5) d a.2).bind λs5=>Wb (e,s5)
def cS(a:Wa)(b:Int):Option (List (Option Int)×c6) :=
 (bH a b).bind λc=>(if (!c.isEmpty)=Wd then bS (a.1,a.2.2.2) c b else Wb (b,a.2.2.2)).bind λx=>(k9 a.2.2.1.length b).bind λj=>Wb (a.2.2.1.set j<|some x.1,x.2)
def aN(a:Wa)(b:Int):Option (Option Int) :=
 (Pu.at_ a.2.2.1 b).bind λx1=>aV (a.1,a.2.2.2) x1
def dQ(a:ZX)(b:Int)(d:ZW):Option (Wa) :=
 (jW a).bind λe=>(bB (λs3 x2=>(cS (a,b,s3.1,s3.2) x2).bind λc=>Wb (c.1,c.2)) d (e,[])).bind λs=>Wb (a,b,s.1,s.2)
def gW(a:ZX)(b:Int):Option (List<|(Int×(Option Int)×(Option Int))) :=
 (dF a).bind λc=>(dQ a b c).bind λd=>(bJ (λy5=>(Pu.at_ d.2.2.1 y5).bind λx6=>Wb<|decide<|x6=Wb y5) (λy5=>Wb<|y5) c).bind λx7=>eN (d.1,d.2.2.2) x7
def bD(a:ZX):Option (List Int) :=
 (di a).bind λx2=>Pu.comp (λy1=>eX a y1) x2
def i5(a:Zp)(b:ZW):Option (List<|List Int) :=
 (qA a.1).bind λx7=>Pu.comp (λy2=>((mul y2 a.2).bind λx3=>Wb<|(Wb x3)).bind λx5=>((mul (y2+1) a.2).bind λx4=>Wb<|(Wb x4)).bind λx6=>Wb<|cut b x5 x6) x7
def dG(a:ZX)(b:Int):Option (List Int) :=
 (dF a).bind λx3=>bJ (λy1=>(eX a y1).bind λx2=>Wb<|decide<|x2<=b) (λy1=>Wb<|y1) x3
def dR(a:ZX)(b:Int)(c:Int):Option (List<|List Int) :=
 (dG a c).bind λd=>(sortI d).bind λx17=>(bB (λs6 x5=>if (!(find s6.2 x5).isSome)=Wd then ((Pu.at_ d<|-1).bind λx7=>bY a b x5 x7).bind λe=>(Pu.app s6.1 e).bind λf=>(bB (λs13 x12=>if (s13).length<16777216 then (λg=>Wb<|g) (Pu.put s13 x12<|true) else Wc) e s6.2).bind λs13=>Wb ((f,s13)) else Wb ((s6.1,s6.2))) x17 ([],[])).bind λs6=>Wb<|s6.1
def jz(a:ZX)(b:Int)(c:Int):Option (List<|Option Int) :=
 ((dG a c).bind λx1=>dQ a b x1).bind λd=>(di a).bind λx5=>Pu.comp (λy4=>aN d y4) x5
def i6(a:ZX):Option (List Int) :=
 (bD a).bind λx1=>(uO x1).bind λz=>sortI z
def mX(a:Zp)(b:Int):Option (Bool) :=
 (mI b a.2).bind λc=>(fmod b a.2).bind λd=>Wb ((decide<|c=(0,a.1-1).1\/c=(0,a.1-1).2) || (decide<|d=(0,a.2-1).1\/d=(0,a.2-1).2))
def jA(a:ZX):Option (hZ) :=
 (size_of a).bind λc=>(di a).bind λxs=>bB (λs x=>(mX c x).bind λb=>if b=Wd then if s.length<16777216 then Wb (Pu.put s x Wc) else Wc else Wb s) xs []
def cT(a:List (List Int)×Int×nX)(b:Int)(c:Int):Option (Bool) :=
 if (!(find a.2.2 b).isSome)=Wd then (eX a.1 b).bind λx1=>Wb (decide<|x1<=c) else Wb We
def bT(a:List (List Int)×Int×hZ)(b:Int):Option (List Int×hZ) :=
 (size_of a.1).bind λx1=>(eU x1 a.2.1 b).bind λaround=>(bJ (λy=>Wb<|!(find a.2.2 y).isSome) (λy=>Wb y) around).bind λfound=>(bB (λs x=>if s.length<16777216 then Wb (Pu.put s x<|some b) else Wc) found a.2.2).bind λs=>Wb (found,s)
def bZ(a:CZ)(b:Int):Option (L2.nX×hZ) :=
 (bJ (λy=>cT (a.1,a.2.1,a.2.2.1) y b) (λy=>Wb y)<|a.2.2.2.map (·.1)).bind λwaiting=>(nC (λs=>Wb<|!s.1.isEmpty) (λs=>s.1.getLast?.bind λcell=>if s.2.1.length<16777216 then (λrd=>(bT (a.1,a.2.1,s.2.2) cell).bind λc=>(bJ (λy=>cT (a.1,a.2.1,rd) y b) (λy=>Wb y) c.1).bind λys=>(CY s.1.dropLast ys).bind λws=>Wb (ws,rd,c.2)) (Pu.put s.2.1 cell b) else Wc) 100000 (waiting,a.2.2.1,a.2.2.2)).bind λs=>Wb (s.2.1,s.2.2)
def kQ(a:ZX)(b:Int)(d:ZW):Option (CZ) :=
 (jA a).bind λdr1=>(bB (λs3 x2=>(bZ (a,b,s3.1,s3.2) x2).bind λc=>Wb (c.1,c.2)) d ([],dr1)).bind λs=>Wb (a,b,s.1,s.2)
def filled(a:ZX)(b:Int):Option (List<|List Int) :=
 ((i6 a).bind λx1=>kQ a b x1).bind λc=>(size_of a).bind λx6=>((di a).bind λx5=>Pu.comp (λy4=>find c.2.2.1 y4) x5).bind λx7=>i5 x6 x7
def dS(a:ZW)(p_k:Int)(b:Int):Option Int :=
 ((gJ a p_k).bind λx1=>Wb<|x1%100000000000000000000).bind λc=>((((mul (p_k+1)<|p_k+7).bind λx4=>Wb<|x4*69621).bind λx5=>Wb<|(c*48271)+x5).bind λx6=>Wb<|x6%2147483647).bind λd=>(((((mul p_k p_k).bind λx9=>Wb<|x9*40692).bind λx10=>Wb<|(c*16807)+x10).bind λx11=>Wb<|x11+7).bind λx12=>Wb<|x12%2147483629).bind λe=>fmod ((d*2147483629)+e)<|b+1
def cU(a:ZW)(p_k:Int)(b:Int)(c:Int)(d:Int):Option Int :=
 if (decide<|b=3)=Wd then (Wb<|([0,1,0,2,0,1,0,3,0,1,0,2]:List Int)).bind λe=>(((Pu.at_ e c).bind λx3=>(Pu.at_ e d).bind λx4=>Wb<|x3+x4).bind λx5=>Wb<|5*x5).bind λx6=>(dS a p_k 3).bind λx7=>Wb (x6+x7) else if (decide<|b=4)=Wd then (dS a p_k 9).bind λx8=>Wb (((6*(ab<|c-5))+(5*((c+d)%3)))+x8) else (Pu.at_ ([3,11,1000000000000000000]) b).bind λx9=>dS a p_k x9
def jB(a:ZW)(b:Int):Option (List<|List Int) :=
 (gJ a 0).bind λc=>(((mI (((ln<|cut a (Wb 3)<|some 63)+(1+(c%12)))-1)<|1+(c%12)).bind λx4=>Wb<|Pu.mn 12 x4).bind λx5=>Wb<|Pu.mx 1 x5).bind λd=>(if (decide<|((c/12)%8)=3)=Wd then Wb (12) else Wb (d)).bind λs8=>(((mI b<|1+(c%12)).bind λx10=>Wb<|Pu.mx 1 x10).bind λx11=>Wb<|Pu.mn s8 x11).bind λe=>(qA e).bind λx26=>(bB (λs17 x16=>((mul x16<|1+(c%12)).bind λx18=>Wb<|3+x18).bind λf=>((qA<|1+(c%12)).bind λx22=>Pu.comp (λy21=>cU a (f+y21) ((c/96)%5) x16 y21) x22).bind λx25=>(Pu.app s17 x25).bind λg=>Wb<|g) x26<|[]).bind λs17=>Wb<|s17
def j8(a:ZX):Option (List<|(Int×Int)) :=
 (bB (λs3 x2=>(CY s3 x2).bind λb=>Wb<|b) a<|[]).bind λs3=>Pu.comp (λy6=>Wb<|(y6.2,y6.1))<|sS s3
def g8(a:ZX)(b:Int)(c:Int):Option (List Int) :=
 (((Pu.at_ a 0).bind λx1=>Wb<|ln x1).bind λx24=>Wb<|(ln a,x24)).bind λt4=>((mI c t4.2).bind λx22=>(fmod c t4.2).bind λx23=>Wb<|(x22,x23)).bind λt7=>(bB (λs10 x9=>(bB (λs12 x11=>(Wb<|!decide ((decide<|x9=0)=(decide<|x11=0))).bind λd=>(Wb<|(decide (0<=t7.1+x9)&&decide (t7.1+x9<t4.1))&&(decide (0<=t7.2+x11)&&decide (t7.2+x11<t4.2))).bind λe=>if (e&&(d || ((decide<|b=8)&&((!decide (x9=0))&&(!decide (x11=0))))))=Wd then (((mul x9 t4.2).bind λx17=>Wb<|c+x17).bind λx18=>Wb<|x18+x11).bind λx21=>(Pu.app s12 x21).bind λf=>Wb (f) else Wb (s12)) ([-1,0,1]) s10).bind λs12=>Wb<|s12) ([-1,0,1])<|[]).bind λs10=>Wb<|s10
def gh(a:ZK)(b:ZK):Option (Bool) :=
 if (b.isNone)=Wd then Wb (a.isNone) else Wb (a.isSome&&((!false)&&(decide<|a=b)))
def fU(a:ZC)(b:ZC):Option (Bool) :=
 if ((!true) || (!decide ((ln a)=(ln b))))=Wd then Wb (We) else andThen (ig (λs2 x1=>((gh x1.1 x1.2).bind λx3=>Wb<|!x3).bind λx4=>if x4=Wd then Wb (.rt<|false) else Wb (.nx ())) (a.zip b) ()) (λs2=>Wb<|true) λx=>x
def tK(a:ZX)(b:Int):Option (List<|(Int×(Option Int)×(Option Int))) :=
 (j8 a).bind λc=>(Pu.comp (λy3=>Wb<|none) c).bind λd=>(tG c).bind λx39=>(bB (λs9 x8=>((g8 a b x8.2).bind λx12=>bJ (λy10=>(Pu.at_ s9.1 y10).bind λx11=>Wb<|x11.isSome) (λy10=>Pu.at_ s9.1 y10) x12).bind λe=>if (decide<|e=[])=Wd then (Pu.app s9.2.2 x8.2).bind λf=>(k9 (s9.1).length x8.2).bind λj18=>(λg=>Wb<|(g,s9.2.1,f)) ((s9.1).set j18 (Wb<|x8.2)) else (((Pu.comp (λy20=>(y20).bind λx21=>Pu.at_ c x21) e).bind λx22=>A7 x22).bind λx23=>Wb<|x23.2).bind λh=>(k9 (s9.1).length x8.2).bind λj27=>(λi=>(bB (λs30 x29=>if (!decide (x29=Wb h))=Wd then (x29).bind λx37=>if (s30.2).length<16777216 then (λj=>(Pu.comp (λy34=>Pu.at_ ([y34,Wb (h)])<|ofb<|decide<|y34=x29) s30.1).bind λk=>Wb<|(k,j)) (Pu.put s30.2 x37<|(Wb<|x8.2,Wb (h))) else Wc else Wb ((s30.1,s30.2))) e (i,s9.2.1)).bind λs30=>Wb<|(s30.1,s30.2,s9.2.2)) ((s9.1).set j27 (Wb<|h))) x39 (d,[],[])).bind λs9=>Pu.comp (λy38=>Wb<|((y38),((find s9.2.1 y38).getD (Wc,Wc)).1,((find s9.2.1 y38).getD (Wc,Wc)).2)) s9.2.2
def iG(a:List ((Int×(Option Int)×(Option Int))))(b:List ((Int×(Option Int)×(Option Int)))):Option (Bool) :=
 if ((!true) || (!decide ((ln a)=(ln b))))=Wd then Wb (We) else andThen (ig (λs2 x1=>(if (!true)=Wd then Wb Wd else (fU ([Wb x1.1.1,x1.1.2.1,x1.1.2.2])<|[Wb x1.2.1,x1.2.2.1,x1.2.2.2]).bind λx3=>Wb<|!x3).bind λx4=>if x4=Wd then Wb (.rt<|false) else Wb (.nx ())) (a.zip b) ()) (λs2=>Wb<|true) λx=>x
def jX(a:ZX):Option (List<|List Int) :=
 (size_of a).bind λx1=>(bD a).bind λx2=>i5 x1 x2
def mf(a:ZX):Option (List<|List Int) :=
 jX a
def mi(a:ZX)(b:Int):Option (List<|(Int×(Option Int)×(Option Int))) :=
 (j8 a).bind λc=>(Pu.comp (λy3=>Wb<|none) c).bind λd=>(pC c).bind λx39=>(bB (λs9 x8=>((g8 a b x8.2).bind λx12=>bJ (λy10=>(Pu.at_ s9.1 y10).bind λx11=>Wb<|x11.isSome) (λy10=>Pu.at_ s9.1 y10) x12).bind λe=>if (decide<|e=[])=Wd then (Pu.app s9.2.2 x8.2).bind λf=>(k9 (s9.1).length x8.2).bind λj18=>(λg=>Wb<|(g,s9.2.1,f)) ((s9.1).set j18 (Wb<|x8.2)) else (((Pu.comp (λy20=>(y20).bind λx21=>Pu.at_ c x21) e).bind λx22=>A7 x22).bind λx23=>Wb<|x23.2).bind λh=>(k9 (s9.1).length x8.2).bind λj27=>(λi=>(bB (λs30 x29=>if (!decide (x29=Wb h))=Wd then (x29).bind λx37=>if (s30.2).length<16777216 then (λj=>(Pu.comp (λy34=>Pu.at_ ([y34,Wb (h)])<|ofb<|decide<|y34=x29) s30.1).bind λk=>Wb<|(k,j)) (Pu.put s30.2 x37<|(Wb<|x8.2,Wb (h))) else Wc else Wb ((s30.1,s30.2))) e (i,s9.2.1)).bind λs30=>Wb<|(s30.1,s30.2,s9.2.2)) ((s9.1).set j27 (Wb<|h))) x39 (d,[],[])).bind λs9=>Pu.comp (λy38=>Wb<|((y38),((find s9.2.1 y38).getD (Wc,Wc)).1,((find s9.2.1 y38).getD (Wc,Wc)).2)) s9.2.2
def i7(a:Zo):Option (List<|List Int) :=
 jX a.1
def kT(a:Zo):Option (List<|(Int×(Option Int)×(Option Int))) :=
 gW a.1 a.2
def jC(a:Zo):Option (List<|List Int) :=
 filled a.1 a.2
def gX(a:ZX)(b:ZX):Option (Bool) :=
 if ((!true) || (!decide ((ln a)=(ln b))))=Wd then Wb (We) else andThen (ig (λs2 x1=>((fU (x1.1.map Wb)<|x1.2.map Wb).bind λx3=>Wb<|!x3).bind λx4=>if x4=Wd then Wb (.rt<|false) else Wb (.nx ())) (a.zip b) ()) (λs2=>Wb<|true) λx=>x
def iH(a:ZX)(b:Int):Option Int :=
 ((fmod b<|ln a).bind λx1=>Pu.at_ a x1).bind λc=>((fmod (b/12)<|ln c).bind λx4=>Pu.at_ c x4).bind λd=>(Wb<|[d,d,Pu.mx 0 (d-1),Pu.mn 1000000000000000000 (d+1),0,1000000000000000000,(b*1000000000)%1000000000000000000]).bind λe=>Pu.at_ e<|(b/144)%7
def iI(a:ZX)(b:Int)(c:Int):Option (List<|Option Int) :=
 (j8 a).bind λd=>(Pu.comp (λy3=>Wb<|none) d).bind λe=>(pC d).bind λx30=>(bB (λs7 x6=>(if (decide<|x6.1<=c)=Wd then (Pu.at_ s7 x6.2).bind λx8=>Wb (x8.isNone) else Wb We).bind λx29=>if x29=Wd then (k9 (s7).length x6.2).bind λj10=>(λf=>(nC (λs13=>Wb<|decide<|0<ln s13.2) (λs13=>(s13.2).getLast?.bind λa15=>(g8 a b a15).bind λx28=>(bB (λs17 x16=>((((Pu.at_ d x16).bind λx18=>Wb<|x18.1).bind λx19=>Wb<|decide<|x19<=c).bind λx21=>if x21=Wd then (Pu.at_ s17.1 x16).bind λx20=>Wb (x20.isNone) else Wb We).bind λx27=>if x27=Wd then (k9 (s17.1).length x16).bind λj23=>(λg=>(Pu.app s17.2 x16).bind λh=>Wb<|(g,h)) ((s17.1).set j23 (Wb<|x6.2)) else Wb ((s17.1,s17.2))) x28 (s13.1,(s13.2).dropLast)).bind λs17=>Wb<|(s17.1,s17.2)) 100000 (f,[x6.2])).bind λs13=>Wb<|s13.1) ((s7).set j10 (Wb<|x6.2)) else Wb (s7)) x30 e).bind λs7=>Wb<|s7
def mY(a:Zo)(b:Int)(c:Int):Option (Option Int) :=
 (jz a.1 a.2 c).bind λx1=>Pu.at_ x1 b
def j9(a:Zo)(b:Int):Option Int :=
 (dR a.1 a.2 b).bind λx1=>Wb<|ln x1
def gk(a:Zo)(b:ZX)(c:Int)(d:ZW)(p_k:Int):Option (Bool) :=
 ((dS d p_k 1000000000).bind λx1=>iH b x1).bind λe=>(iI b c e).bind λf=>(dS d (p_k+20)<|(ln f)-1).bind λg=>(((mY a g e).bind λx8=>(Pu.at_ f g).bind λx9=>gh x8 x9).bind λx10=>Wb<|!x10).bind λx18=>if x18=Wd then Wb (We) else (((bJ (λy11=>Wb<|y11.isSome) (λy11=>y11) f).bind λx12=>uO x12).bind λx13=>Wb<|ln x13).bind λh=>((j9 a e).bind λx16=>Wb<|some<|x16).bind λx17=>gh x17<|some<|h
def mj(a:ZW):Option (Bool) :=
 (jB a 60).bind λb=>(((gJ a 1).bind λx3=>Wb<|x3%2).bind λx4=>Pu.at_ ([4,8]) x4).bind λd=>(Pu.comp (λ(y7:ZW)=>Wb<|y7) b).bind λe=>e[0]?.bind λf=>((mf<|e.set (0) f).bind λg=>Wb (g,d)).bind λh=>((((gJ a 1).bind λx17=>Wb<|x17%4).bind λx18=>Wb<|decide<|x18=0).bind λc=>if c=Wd then ((mf<|e.set (0) f).bind λi=>Wb (i,4)).bind λj=>Wb (j) else Wb (h)).bind λs19=>if (!decide ((e.set (0) f)=b))=Wd then Wb (We) else (((Pu.at_ (e.set (0) f) 0).bind λx23=>Pu.at_ x23 0).bind λx24=>Wb<|x24+1).bind λx75=>(k9 (f).length 0).bind λj27=>(λk=>(Pu.at_ b 0).bind λx74=>(Pu.app e x74).bind λs=>(mi b d).bind λl=>(qA 2).bind λx73=>andThen (ig (λ(s32:(List<|((List<|List Int)×(List<|List Int)×(List<|(Int×(Option Int)×(Option Int)))×(List<|(Int×(Option Int)×(Option Int)))×(List<|List Int)×(List<|List Int)))) (x31:Int)=>(i7 s19).bind λm=>m[0]?.bind λn=>(kT s19).bind λo=>(jC s19).bind λp=>p[p.length-1]?.bind λq=>(((gX (m.set (0) n) b).bind λx47=>Wb<|!x47).bind λx52=>if x52=Wd then Wb Wd else ((iG o l).bind λx48=>Wb<|!x48).bind λx51=>if x51=Wd then Wb Wd else ((filled b d).bind λx49=>gX (p.set ((p).length-1) q) x49).bind λx50=>Wb<|!x50).bind λx70=>if x70=Wd then Wb (.rt<|false) else (((Pu.at_ (m.set (0) n) 0).bind λx53=>Pu.at_ x53 0).bind λx54=>Wb<|x54+1).bind λx69=>(k9 (n).length 0).bind λj57=>(λr=>(Pu.app o (0,Wb (0),Wb (0))).bind λt=>((Pu.comp (λ(y60:ZW)=>Wb<|y60)<|m.set (0) r).bind λx61=>Wb<|((m.set (0) r),x61,t,t,[],[])).bind λx68=>(Pu.app s32 x68).bind λu=>(((gk s19 b d a<|2+x31).bind λx64=>Wb<|!x64).bind λx66=>if x66=Wd then Wb Wd else (gk s19 b d a<|9+x31).bind λx65=>Wb<|!x65).bind λx67=>if x67=Wd then Wb (.rt<|false) else Wb (.nx u)) ((n).set j57 (x69))) x73<|[]) (λ(s32:(List<|((List<|List Int)×(List<|List Int)×(List<|(Int×(Option Int)×(Option Int)))×(List<|(Int×(Option Int)×(Option Int)))×(List<|List Int)×(List<|List Int))))=>andThen (ig (λ(s72:Unit) (x71:((List<|List Int)×(List<|List Int)×(List<|(Int×(Option Int)×(Option Int)))×(List<|(Int×(Option Int)×(Option Int)))×(List<|List Int)×(List<|List Int)))=>if ((!decide (x71.1=x71.2.1)) || ((!decide (x71.2.2.1=x71.2.2.2.1)) || (!decide (x71.2.2.2.2.1=x71.2.2.2.2.2))))=Wd then Wb (.rt<|false) else Wb (.nx ())) s32 ()) (λ(s72:Unit)=>Wb<|true) λx=>x) λx=>x) ((f).set j27 (x75))
end Pf

namespace Pu
section
variable {S R T β α:Type}
def iJ{f:S->β->Option S}(I:Nat->S->Prop):∀{xs:List β} {s:S},I 0 s->(∀i x s,xs[i]?=Wb x->I i s->∃s',f s x=Wb s'/\I (i+1) s')->∃s',bB f xs s=Wb s'/\I xs.length s':=by
 intro xs;induction xs generalizing I with
 |nil=>exact λh0 a=>aD _ rfl h0
 |cons x xs ih =>intro s h0 h;exact bN (h 0 x s rfl h0) λs1 e1 h1=>bN (ih (λi=>I<|i+1) (s:=s1) h1 λi y t hy ht=>h (i+1) y t hy ht) λs2 e2 h2=>(aD s2 (by rw[re,e1];exact e2) h2)
def vB{f:S->β->Option (Ctl S R)}(I:Nat->S->Prop):∀{xs:List β} {s:S},I 0 s->(∀i x s,xs[i]?=Wb x->I i s->∃s',f s x=Wb (.nx s')/\I (i+1) s')->∃s',ig f xs s=Wb (.nx s')/\I xs.length s':=by
 intro xs;induction xs generalizing I with
 |nil=>exact λh0 a=>aD _ rfl h0
 |cons x xs ih =>intro s h0 h;exact bN (h 0 x s rfl h0) λs1 e1 h1=>bN (ih (λi=>I<|i+1) (s:=s1) h1 λi y t hy ht=>h (i+1) y t hy ht) λs2 e2 h2=>(aD s2 (by rw[zD,e1];exact e2) h2)
def Af{f:Unit->β->Option (Ctl Unit R)}(h:∀x∈xs,f () x=Wb (.nx ())):ig f xs ()=Wb (.nx ()):=by obtain⟨s',e,_⟩:=vB (f:=f) (λa a=>True) (xs:=xs) (s:=()) trivial λi x s hx a=>(aD () (h x<|X6 hx) trivial);exact e
def pU{k:S->Option T}{e:R->T}(h:o=Wb (.nx s)):andThen o k e=k s:=by subst h;rfl
def gK{f:Unit->β->Option (Ctl Unit R)}{k:Unit->Option T}{e:R->T}(h:∀x∈xs,f () x=Wb (.nx ())):andThen (ig f xs ()) k e=k ():=pU<|Af h
def iK{f:S->β->Option S}{k:S->Option T}(I:Nat->S->Prop)(h0:I 0 s)(h:∀i x s,xs[i]?=Wb x->I i s->∃s',f s x=Wb s'/\I (i+1) s')(hk:∀s',I xs.length s'->k s'=o):(bB f xs s).bind k=o:=by obtain⟨s',e,q⟩:=iJ I h0 h;rw[e];exact hk s' q
def Ag{f:S->β->Option (Ctl S R)}{k:S->Option T}{e:R->T}(I:Nat->S->Prop)(h0:I 0 s)(h:∀i x s,xs[i]?=Wb x->I i s->∃s',f s x=Wb (.nx s')/\I (i+1) s')(hk:∀s',I xs.length s'->k s'=o):andThen (ig f xs s) k e=o:=by obtain⟨s',e1,q⟩:=vB I h0 h;rw[pU e1];exact hk s' q
def whS_inv{t:S->Option Bool}{f:S->Option S}(I:S->Prop)(μ:S->Nat)(h:∀s,I s->∃b,t s=Wb b/\(b=Wd->∃s',f s=Wb s'/\I s'/\μ s'<μ s)):∀{n:Nat} {s:S},I s->μ s<n->∃s',nC t f n s=Wb s'/\I s'/\t s'=Wb We:=by
 intro n;induction n with
 |zero=>exact λx hn=>VR hn<|M6 _
 |succ n ih =>
  intro s hI hn;obtain⟨b,e1,e2⟩:=h s hI;cases b with
  |false=>exact(eD s (by rw[uE,e1];rfl) hI e1)
  |true =>obtain⟨s1,e3,h1,h2⟩:=e2 rfl;obtain⟨s2,e4,h3,h4⟩:=ih h1<|cW h2<|O9 hn;exact(eD s2 (by rw[uE,e1,fE,VP rfl,e3];exact e4) h3 h4)
def Cs{t:S->Option Bool}{f:S->Option S}{k:S->Option T}(I:S->Prop)(μ:S->Nat)(h0:I s)(hn:μ s<n)(h:∀s,I s->∃b,t s=Wb b/\(b=Wd->∃s',f s=Wb s'/\I s'/\μ s'<μ s))(hk:∀s',I s'->t s'=Wb We->k s'=o):(nC t f n s).bind k=o:=by obtain⟨s',e,h1,h2⟩:=whS_inv I μ h h0 hn;rw[e];exact hk s' h1 h2
def yJ{f:S->β->Option S}{k:S->Option T}{P:T->Prop}(I:Nat->S->Prop)(h0:I 0 s)(h:∀i x s,xs[i]?=Wb x->I i s->∃s',f s x=Wb s'/\I (i+1) s')(hk:∀s',I xs.length s'->∃o,k s'=Wb o/\P o):∃o,(bB f xs s).bind k=Wb o/\P o:=by obtain⟨s',e,q⟩:=iJ I h0 h;rw[e];exact hk s' q
def vC(h:(nats n)[i]?=Wb x):i<n/\x=(i:Int):=by
 unfold nats at h;rw[Y3]at h;by_cases hi:i<n
 ·rw[Q4 hi]at h;exact⟨hi,(Z4 h).symm⟩
 ·rw[T0 (by simp;exact W5.mp hi)]at h;cases h
def jD(n:Nat):(nats n).length=n:=by unfold nats;simp
def pX:x∈nats n↔∃i:Nat,i<n/\x=(i:Int):=by
 unfold nats;simp only[U3,R4]
 constructor
 ·rintro⟨i,h,rfl⟩;exact(aD i h rfl)
 ·rintro⟨i,h,rfl⟩;exact(aD i h rfl)
def jE{n:Nat}(h:n<=1000000):qA (n:Int)=Wb (nats n):=by unfold qA;rw[VP ⟨by lia,by lia⟩,W4]
def rng2_ok(h1:-1000000<=i)(h2:i<=1000000)(h3:-1000000<=j)(h4:j<=1000000):uD i j=Wb ((Z9 (j-i).toNat).map λ(k:Nat)=>i+(k:Int)):=by unfold uD;rw[VP (qr (by lia) (by lia) (by lia) (by lia))]
def tL(a:Int)(h:0<k):∃r:Nat,a%k=(r:Int)/\(r:Int)<k:=by obtain⟨r,hr⟩:=D2<|Int.emod_nonneg a<|Int.ne_of_gt h;exact(aD r hr<|hr▸Int.emod_lt_of_pos a h)
def i8(h:xs.length<=1000000):app xs a=Wb (xs++[a]):=by unfold app;rw[VP (by exact dM h (by decide))]
def Ct(h:xs.length+ys.length<=1000000):CY xs ys=Wb (xs++ys):=by unfold CY;rw[VP (by exact cj<|dM h (by decide))]
def tM(h:-(2^64)<i/\i<2^64):mul i j=Wb (i*j):=by unfold mul;rw[VP (.inl h)]
def ja(h:-(2^64)<j/\j<2^64):mul i j=Wb (i*j):=by unfold mul;rw[VP (.inr h)]
def jY(h:0<j/\j<2^64):mI i j=Wb (i/j):=by unfold mI;rw[VP h]
def io(h:0<j):fmod i j=Wb (i%j):=by unfold fmod;rw[VP h]
def bX{f:β->Option α}{g:β->α}(hl:xs.length<=1000000)(h:∀x∈xs,f x=Wb (g x)):comp f xs=Wb (xs.map g):=by
 unfold comp;rw[VP (by exact cj<|dM hl (by decide))];clear hl;induction xs with
 |nil=>rfl
 |cons x xs ih =>rw[wG,h x (Y1.mpr<|.inl rfl),fE,ih λy hy=>h y<|Y1.mpr<|.inr hy];rfl
def fV{t:β->Option Bool}{f:β->Option α}{p:β->Bool}{g:β->α}(hl:xs.length<=1000000)(ht:∀x∈xs,t x=Wb (p x))(h:∀x∈xs,p x=Wd->f x=Wb (g x)):bJ t f xs=Wb ((xs.filter p).map g):=by
 unfold bJ;rw[VP (by exact cj<|dM hl (by decide))];clear hl;induction xs with
 |nil=>rfl
 |cons x xs ih =>
  rw[cp,ht x (Y1.mpr<|.inl rfl),fE,ih (λy hy=>ht y<|Y1.mpr<|.inr hy) λy hy=>h y<|Y1.mpr<|.inr hy];cases q:p x with
  |false=>rw[VQ Z3,K5 (by simp[q])]
  |true =>rw[VP rfl,h x (Y1.mpr<|.inl rfl) q,K6 q];rfl
def c7{i:Nat}:at_ xs (i:Int)=xs[i]?:=by
 unfold at_ L2.xW L2.k9;rw[VP (by exact M4.mpr<|U2 _)];by_cases h:i<xs.length
 ·rw[VP (by exact U5.mpr h)];simp
 ·rw[VQ (by exact Int.not_lt.mpr<|M4.mpr<|W5.mp h)];simp;exact W5.mp h
def vD(xs:List α):(sS xs).length=xs.length:=by unfold sS;simp
def yK{i j:Nat}:cut xs (Wb (i:Int)) (Wb (j:Int))=(xs.drop i).take (j-i):=by
 unfold cut;rw[HT.xU,HT.xU];by_cases h:i<=xs.length
 ·rw[Nat.min_eq_left h];by_cases h2:j<=xs.length
  ·rw[Nat.min_eq_left h2]
  ·rw[Nat.min_eq_right (by exact cj<|Nat.not_le.mp h2),List.take_of_length_le (by simp),List.take_of_length_le (by simp;omega)]
 ·rw[Nat.min_eq_right (a:=i) (by exact cj<|Nat.not_le.mp h),List.drop_of_length_le (bW _),List.drop_of_length_le (by exact cj<|Nat.not_le.mp h)];simp
end
end Pu

namespace Fl
abbrev cl(l:ZT):List Int:=l.map λ(o:Nat)=>(o:Int)
def bz(l:ZT):(cl l).length=l.length:=by simp
def fW:x∈cl l↔∃o,o∈l/\x=(o:Int):=by
 simp only[U3]
 constructor
 ·rintro⟨o,h,rfl⟩;exact(aD o h rfl)
 ·rintro⟨o,h,rfl⟩;exact(aD o h rfl)
def c8{x:Nat}:(x:Int)∈cl l↔x∈l:=by
 rw[fW]
 constructor
 ·rintro⟨o,h,e⟩;have:x=o:=by lia
  rw[this];exact h
 ·exact λh=>(aD x h rfl)
def xD(a b:Int):Pu.ab (a-b)=ny a b:=rfl
end Fl

namespace Pf
open Fl Pu
def vE{i j:Nat}(hi:i<=1000)(hj:j<=1000):uD (i:Int) (j:Int)=Wb ((Z9<|j-i).map λ(k:Nat)=>((i+k:Nat):Int)):=by rw[rng2_ok (by lia) (by exact M4.mpr<|cj<|dM hi (by decide)) (by lia) (by exact M4.mpr<|cj<|dM hj (by decide)),Int.toNat_sub];simp only[M9]
def mx_dn(R:Nat):Pu.mx 0 ((R:Int)-1)=((R-1:Nat):Int):=by unfold Pu.mx;split<;>omega
def mn_up(m R:Nat):Pu.mn (m:Int) ((R:Int)+2)=((min m (R+2):Nat):Int):=by unfold Pu.mn;split<;>lia
def vF{a b:Nat}(h1:a<=b+1)(h2:b<=a+1):0<=ny a b/\ny a b<=1:=by unfold ny;split<;>lia
def Cu{p q ms Wf:Int}(b1:0<=p/\p<=1)(b2:0<=q/\q<=1)(e:ms=(if Wf=8 then 2 else 1)):(p+q=1\/(Wf=8/\p=1/\q=1))↔(0<p+q/\p+q<=ms):=by subst e;split<;>lia
def yL{α:Type}{f:Nat->α}{y:α}(h:((Z9 n).map f)[j]?=Wb y):j<n/\y=f j:=by rw[Y3]at h;obtain⟨k,hk,rfl⟩:=S7.mp h;obtain⟨h1,h2⟩:=Z6.mp hk;rw[X1]at h1;rw[List.getElem_range]at h2;exact⟨h1,by rw[h2]⟩
def vG(h:R<m):R-1+(min m (R+2)-(R-1))=min m (R+2):=Nat.add_sub_cancel'<|Nat.le_min.mpr ⟨aO (Q8 _ _)<|cj h,aO (Q8 _ _)<|R3 _ _⟩
def yM(h:i<min m (R+2)-(R-1)):R-1+i<m/\R-1+i<=R+1/\R<=R-1+i+1 :=
 have q:=Nat.lt_min.mp (Nat.add_lt_of_lt_sub' h)
 ⟨q.1,O9 q.2,Nat.le_add_of_sub_le<|R3 _ _⟩
def vH(h:min m (R+2)<=v)(h2:v<m):R+1<v:=by lia
def iz{m c x:Nat}{Wf:Int}(hc0:0<c)(Wl:c<=1000)(hmm:m<=1000)(hx:x<m*c):eU ((m:Int),(c:Int)) Wf (x:Int)=Wb (cl<|gE m c Wf x):=by
 have hxr:x/c<m:=Nat.div_lt_of_lt_mul (by rw[D7];exact hx);have hxc:x%c<c:=Nat.mod_lt _ hc0;have d1:((x:Nat):Int)/((c:Nat):Int)=((x/c:Nat):Int):=(Int.natCast_ediv x c).symm;have d2:((x:Nat):Int)%((c:Nat):Int)=((x%c:Nat):Int):=(Int.natCast_emod x c).symm;have c1:(0:Int)<(c:Int):=U5.mpr hc0;have c2:((c:Nat):Int)<2^64:=G7 (M4.mpr Wl) (by decide);unfold eU;simp only;rw[jY ⟨c1,c2⟩,fE,io c1,fE,d1,d2,fE];generalize hR:x/c=R at hxr;generalize hC:x%c=C at hxc;generalize hms:(if (decide<|Wf=8)=Wd then (2:Int) else 1)=ms;have ems:ms=(if Wf=8 then 2 else 1):=by rw[<- hms];simp
 have lR:R-1<=1000:=aO (Q8 _ _)<|aO (cj hxr) hmm;have lC:C-1<=1000:=aO (Q8 _ _)<|aO (cj hxc) Wl;rw[mx_dn,mn_up,mx_dn,mn_up,vE lR (aO (Nat.min_le_left _ _) hmm),fE];have key:∀(s:ZW) (r:Nat),r<m->r<=R+1->R<=r+1->s=cl ((Z9<|r*c).filter (sI c Wf x)) ->
   ∃s',((uD ((C-1:Nat):Int) ((min c (C+2):Nat):Int)).bind λx16=>(bB (λ(s11:ZW) (x10:Int)=>if (decide (0<(ab<|(r:Int)-(R:Int))+(ab<|x10-(C:Int)))&&decide ((ab<|(r:Int)-(R:Int))+(ab<|x10-(C:Int))<=ms))=Wd then ((mul (r:Int) (c:Int)).bind λx12=>Wb<|x12+x10).bind λx15=>(Pu.app s11 x15).bind λfound14=>Wb (found14) else Wb (s11)) x16 s).bind λs11=>Wb s11)=Wb s'/\s'=cl ((Z9<|(r+1)*c).filter (sI c Wf x)):=by
  intro s r hr1 hr2 hr3 es;have hrc:r*c+c<=m*c:=by rw[<- Nat.succ_mul];exact L9 c hr1
  have hmc:m*c<=1000000:=Nat.mul_le_mul hmm Wl;rw[vE lC (aO (Nat.min_le_left _ _) Wl),fE];refine(aD _ (iK (λj s=>s=cl ((Z9<|r*c+(C-1+j)).filter (sI c Wf x))) ?_ ?_ ?_) rfl)
  rotate_left 2
  ·rintro s' e2;show Wb s'=Wb _;congr 1;rw[e2,Nat.add_mul,Nat.one_mul,Z5,X1,vG hxc,jM _ (r*c+min c (C+2)) (r*c+c) (E5 (Nat.min_le_left _ _) _) λo h1 h2=>?_];obtain⟨k,rfl⟩:=show ∃k,o=r*c+k from ⟨o-r*c,(Nat.add_sub_cancel'<|aO (R3 _ _) h1).symm⟩;have hk:=Nat.lt_of_add_lt_add_left h2;refine nA<|.inr ?_;rw[(lG (i:=r) hk).2,hC];exact vH (Nat.le_of_add_le_add_left h1) hk
  ·rw[es,Nat.add_zero,jM _ (r*c) _ (R3 _ _) λo h1 h2=>?_];obtain⟨k,rfl⟩:=show ∃k,o=r*c+k from ⟨o-r*c,(Nat.add_sub_cancel' h1).symm⟩;have hk:=Nat.lt_of_add_lt_add_left h2;refine nA<|.inl ?_;rw[(lG (i:=r)<|fD (cW hk<|Q8 _ _) hxc).2,hC];exact Nat.add_lt_of_lt_sub hk
  ·intro j y s hy es;obtain⟨hj,rfl⟩:=yL hy;obtain⟨k1,k2,k3⟩:=yM hj;rw[show r*c+(C-1+(j+1))=r*c+(C-1+j)+1 from rfl,qY,B6 k1];generalize C-1+j=k at k1 k2 k3 es;rw[xD,xD,hR,hC];have l2:s.length<=1000000:=by rw[es,bz];refine aO (W8 _ _) ?_;rw[X1];exact aO (E5 (cj k1) _)<|aO hrc hmc
   have iff:=Cu (vF hr2 hr3) (vF k2 k3) ems;by_cases hcond:0<ny (r:Nat) (R:Nat)+ny (k:Nat) (C:Nat)/\ny (r:Nat) (R:Nat)+ny (k:Nat) (C:Nat)<=ms
   ·refine(aD (s++[((r*c+k:Nat):Int)]) ?_ ?_)
    ·rw[VP (by simpa using hcond),ja ⟨Int.lt_trans (by decide) c1,c2⟩,fE,fE,i8 l2,fE,M9,J1]
    ·rw[VU (iff.mpr hcond),VP rfl,es];unfold cl;rw[M8];rfl
   ·refine(aD s ?_ ?_)
    ·rw[VQ (by simpa using hcond)]
    ·rw[VW λh=>hcond<|iff.mp h,VQ Z3,V2];exact es
 refine iK (λi s=>s=cl ((Z9<|(R-1+i)*c).filter (sI c Wf x))) ?_ ?_ ?_
 rotate_left 2
 ·rintro s' e2;rw[e2];congr 2;unfold gE;rw[Z5,X1,vG hxr,jM _ (min m (R+2)*c) (m*c) (L9 c<|Nat.min_le_left _ _) λo h1 h2=>?_];refine nz hc0<|.inr ?_;rw[hR];exact vH ((Nat.le_div_iff_mul_le hc0).mpr h1)<|(Nat.div_lt_iff_lt_mul hc0).mpr h2
 ·rw[Nat.add_zero,jM _ 0 _ (U2 _) λo a ho=>?_]
  ·rfl
  ·refine nz hc0<|.inl ?_;rw[hR];exact Nat.add_lt_of_lt_sub<|(Nat.div_lt_iff_lt_mul hc0).mpr ho
 ·intro i y s hy es;obtain⟨hi,rfl⟩:=yL hy;obtain⟨k1,k2,k3⟩:=yM hi;exact key s (R-1+i) k1 k2 k3 es
def kU(ns:ZW)(k:Nat):gJ ns (k:Int)=Wb (cellAt ns k):=by
 unfold gJ cellAt ln;by_cases h:k<ns.length
 ·rw[VP (by simpa using h),c7];simp[h]
 ·rw[VQ (by simpa using h)];simp[h]
def xE(ZZ:ZX)(h:ZZ.flatten.length<=1000000):tJ ZZ=Wb ZZ.flatten:=by
 unfold tJ;refine iK (λi s=>s=(ZZ.take i).flatten) rfl ?_ λs' e=>by rw[e,List.take_length]
 intro i r s hr es;have hi:=(Z6.mp hr).1;have er:=(Z6.mp hr).2;have e1:(ZZ.take<|i+1).flatten=s++r:=by have e0:ZZ.take (i+1)=ZZ.take i++[ZZ[i]]:=(P4 hi).symm;rw[e0,es,er];simp
 have hle:(s++r).length<=ZZ.flatten.length:=by
  rw[<- e1];have e2:ZZ.flatten=(ZZ.take<|i+1).flatten++(ZZ.drop<|i+1).flatten:=by rw[<- List.flatten_append,List.take_append_drop]
  rw[e2,X4];exact R3 _ _
 rw[X4]at hle;exact(aD (s++r) (by rw[Ct (by exact aO hle h)];rfl) e1.symm)
end Pf

namespace Fl
def eZ(ZZ:ZX)(c x:Nat):Int:=(ZZ.getD (x/c) []).getD (x%c) 0
def bE{ZZ:ZX}(h:∀r∈ZZ,r.length=c):ZZ.flatten.length=ZZ.length*c:=by
 induction ZZ with
 |nil=>simp
 |cons r rs ih =>rw[List.flatten_cons,X4,ih λq hq=>h q<|Y1.mpr<|.inr hq,h r (Y1.mpr<|.inl rfl),X2,Nat.succ_mul];lia
def jF(hc:0<c)(h:∀r∈ZZ,r.length=c)(hx:x<ZZ.length*c):ZZ.flatten[x]?=Wb (eZ ZZ c x):=by
 induction ZZ generalizing x with
 |nil=>simp at hx
 |cons r rs ih =>
  have hr:=h r<|Y1.mpr<|.inl rfl;rw[List.flatten_cons];by_cases hlt:x<c
  ·rw[W3 (by exact cW hlt<|bK hr.symm),Z7 (by exact cW hlt<|bK hr.symm)];unfold eZ;rw[Nat.div_eq_of_lt hlt,Nat.mod_eq_of_lt hlt];simp[hr,hlt]
  ·rw[V1 (by exact aO (bK hr)<|W5.mp hlt),hr];rw[X2,Nat.succ_mul]at hx;rw[ih (λq hq=>h q<|Y1.mpr<|.inr hq) (by omega)];unfold eZ;have e1:x/c=(x-c)/c+1:=by rw[Nat.div_eq x c,VP ⟨hc,by exact W5.mp hlt⟩]
   have e2:x%c=(x-c)%c:=by rw[Nat.mod_eq_sub_mod (by exact W5.mp hlt)]
   rw[e1,e2];simp
end Fl

namespace Pf
open Fl Pu
section
variable {ZZ:ZX}{c:Nat}
def dH(hp:0<ZZ.length)(h:∀r∈ZZ,r.length=c):size_of ZZ=Wb ((ZZ.length:Int),(c:Int)):=by
 unfold size_of;cases ZZ with
 |nil=>simp at hp
 |cons r rs =>have hr:=h r<|Y1.mpr<|.inl rfl;rw[VP (by simp)];have e0:Pu.at_ (r ::rs) 0=Wb r:=c7 (i:=0);rw[e0,fE,fE];unfold ln;rw[hr]
def dU(hc:0<c)(Wl:c<=1000)(h:∀r∈ZZ,r.length=c)(hx:x<ZZ.length*c):eX ZZ (x:Int)=Wb (eZ ZZ c x):=by
 have hp:0<ZZ.length:=by
  rcases Nat.eq_zero_or_pos ZZ.length with z|z
  ·rw[z]at hx;simp at hx
  ·exact z
 have hq:x/c<ZZ.length:=Nat.div_lt_of_lt_mul (by rw[D7];exact hx);have hm:x%c<c:=Nat.mod_lt _ hc;unfold eX;rw[dH hp h,fE,fE,jY ⟨by lia,by lia⟩,fE,io (by lia),<- Int.natCast_ediv,c7,Z7 hq,fE,fE,<- Int.natCast_emod,c7];have hr:=h _<|E9 hq;rw[Z7 (by exact cW hm<|bK hr.symm)];unfold eZ;simp[hq,hr,hm]
def key(ZZ:ZX)(c x:Nat):Int×Int:=(eZ ZZ c x,(x:Int))
def gL(hc:0<c)(Wl:c<=1000)(h:∀r∈ZZ,r.length=c)(hx:x<ZZ.length*c):cQ ZZ (x:Int)=Wb (key ZZ c x):=by unfold cQ;rw[dU hc Wl h hx];rfl
def je(hc:0<c)(Wl:c<=1000)(h:∀r∈ZZ,r.length=c)(hx:x<ZZ.length*c)(hy:y<ZZ.length*c):da ZZ (x:Int) (y:Int)=Wb (dZ (key ZZ c x)<|key ZZ c y):=by unfold da;rw[gL hc Wl h hx,gL hc Wl h hy];rfl
end
end Pf

namespace Pu
section
variable {α:Type}
def find_some{d:List (Int×α)}:(find d k).isSome=decide (k∈d.map (·.1)):=by unfold find;rw[Option.isSome_map,V6,VS,List.find?_isSome];simp only[U3,VS]
def mq{k:Int}{v:α}(h:k∉d.map (·.1)):put d k v=d++[(k,v)]:=by unfold put;rw[VQ];rw[J8];rintro⟨e,he,hk⟩;exact h<|U3.mpr<|aD e he (by simpa using hk)
end
end Pu

namespace Fl
def dW(l m:ZT):cl (l++m)=cl l++cl m:=by simp
def Par(nb:ZG)(x:Nat)(d:List (Int×Option Int)):Prop :=
 ∀(i:Nat) e,d[i]?=Wb e->(i=0/\e=((x:Int),Wc))\/∃(j:Nat) (p k:Nat),j<i/\e=((k:Int),Wb (p:Int))/\(d[j]?).map (·.1)=Wb (p:Int)/\k∈nb p
def Par.start{nb:ZG}:Par nb x [((x:Int),Wc)]:=λi e h=>by
 cases i with
 |zero=>exact .inl ⟨rfl,(Z4 h).symm⟩
 |succ i=>exact nomatch h
def Par.add{nb:ZG}{x k p:Nat}(h:Par nb x d)(hp:(p:Int)∈d.map (·.1))(hk:k∈nb p):Par nb x (d++[((k:Int),Wb (p:Int))]):=λi e he=>by
 by_cases hi:i<d.length
 ·rw[W3 hi]at he;rcases h i e he with z|zr1_
  ·exact .inl z
  ·obtain⟨j,q,k',hj,e1,e2,e3⟩:=zr1_;exact .inr ⟨j,q,k',hj,e1,(by rw[W3 (by exact fD hj hi)];exact e2),e3⟩
 ·rw[V1 (by exact W5.mp hi)]at he;have hi2:i-d.length=0:=by have:=(Z6.mp he).1;simp at this;exact T9 (bK this)<|U2 _
  rw[hi2]at he;cases he;obtain⟨j,hj⟩:=L6.mp hp;have hj':j<d.length:=by have:=(Z6.mp hj).1;simpa using this
  refine .inr ⟨j,p,k,(by exact cW hj'<|W5.mp hi),rfl,?_,hk⟩;rw[W3 hj',<- Y3];exact hj
end Fl

namespace Gr
open Fl Pu
def bj{α β:Type}{o:Option α}{a:α}{f:α->Option β}{r:Option β}(h:o=Wb a)(k:f a=r):o.bind f=r:=by subst h;exact k
def vI{α β:Type}(o:Option (α×β)):(o.bind λs=>Wb (s.1,s.2))=o:=by cases o<;>rfl
def Tk(ws:ZT)(u:Nat)(ws':ZT):Prop:=u∈ws/\(∀w∈ws,w=u\/w∈ws')/\(∀w∈ws',w∈ws)/\ws.length=ws'.length+1
def Tk.first:Tk (u ::ws') u ws':=⟨Y5,λx h=>Y1.mp h,λx h=>Y8 _ h,rfl⟩
def Tk.last:Tk (ws'++[u]) u ws':=⟨Y2 _ Y5,λx h=>(Y9.mp h).elim .inr λz=>.inl<|Y0.mp z,λx h=>X8 _ h,X4⟩
def yN(a:Nat)(l:ZT):∃u ws,a ::l=ws++[u]:=(List.eq_nil_or_concat (a ::l)).elim (λz=>nomatch z) λ⟨ws,u,e⟩=>⟨u,ws,e.trans List.concat_eq_append⟩
section
variable {β:Type}{v:β}
def look_of(hX:X=Wb b):
  (o∈d.map (·.1)\/b=We->((if (!(find d o).isSome)=Wd then X else Wb We).bind λq=>if q=Wd then if d.length<16777216 then (app w o).bind λl=>Wb (put d o v,l) else Wc else Wb (d,w))=Wb (d,w)) /\
  (o∉d.map (·.1)->b=Wd->d.length<=10000->w.length<=10000->((if (!(find d o).isSome)=Wd then X else Wb We).bind λq=>if q=Wd then if d.length<16777216 then (app w o).bind λl=>Wb (put d o v,l) else Wc else Wb (d,w))=Wb (d++[(o,v)],w++[o])):=by
 subst hX;rw[find_some];refine⟨λh=>bj (a:=We) ?_ rfl,λh1 h2 h3 h4=>?_⟩
 ·rcases h with h|h
  ·rw[VU h];rfl
  ·subst h;exact ite_self _
 ·rw[VW h1,h2,mq h1,i8 (aO h4 (by decide))];exact VP<|dM h3 (by decide)
end
section
variable {D:Type}{nb:ZG}{ok:ZH}{n x u j:Nat}{M:D->List Nat->Prop}
def Lk(x:Nat)(M:D->List Nat->Prop)(nb:ZG)(ok:ZH)(u:Nat)(g:D×List Int->Int->Option (D×List Int)):Prop :=
 ∀(o:Nat) d kk w,o∈nb u->u∈kk->M d kk->(o∈kk\/ok o=We->g (d,w) (o:Int)=Wb (d,w))/\(o∉kk->ok o=Wd->Rch (λa b=>b∈nb a) (λa=>ok a=Wd) x o->kk.length<=10000->w.length<=10000->∃d',g (d,w) (o:Int)=Wb (d',w++[(o:Int)])/\M d' (kk++[o]))
def Nm(n j:Nat)(M:D->List Nat->Prop)(d:D)(kk ws:ZT):Prop:=M d kk/\(∀k∈kk,k<n)/\kk.length=ws.length+j
def gs_all{g:D×List Int->Int->Option (D×List Int)}(hn:n<=10000)(hnb:∀o∈nb u,o<n)(hg:Lk x M nb ok u g):
  ∀(os done:ZT) (d:D) (kk ws:ZT),(∀o∈os,o∈nb u)->SeaAt nb ok x u done kk ws->Nm n j M d kk ws->∃d' kk' ws',bB g (cl os) (d,cl ws)=Wb (d',cl ws')/\SeaAt nb ok x u (done++os) kk' ws'/\Nm n j M d' kk' ws':=by
 intro os;induction os with
 |nil=>exact λdone d kk ws a sa nt=>⟨d,kk,ws,rfl,(V2 done).symm▸sa,nt⟩
 |cons o os ih =>
  intro done d kk ws ho sa nt;have hl:kk.length<=10000:=aO (dA n sa.nd nt.2.1) hn;have hu:=ho o Y5;have G:=hg o d kk (cl ws) hu sa.u_in nt.1;have one:∃d' kk' ws',g (d,cl ws) (o:Int)=Wb (d',cl ws')/\SeaAt nb ok x u (done++[o]) kk' ws'/\Nm n j M d' kk' ws':=by
   by_cases hin:o∈kk
   ·exact⟨d,kk,ws,G.1<|.inl hin,sa.skip λa=>hin,nt⟩
   ·cases hok:ok o with
    |false=>exact⟨d,kk,ws,G.1<|.inr hok,sa.skip λz=>VR (hok.symm.trans z) Z3,nt⟩
    |true =>obtain⟨d',e,m⟩:=G.2 hin hok (.on (sa.rch u sa.u_in) hu hok) hl (by rw[bz];have:=nt.2.2;omega);exact⟨d',_,ws++[o],by rw[dW];exact e,sa.add hu hok hin λw=>by rw[Y9,Y0],m,λk hk=>(Y9.mp hk).elim (nt.2.1 k) λz=>(Y0.mp z)▸hnb o hu,by have:=nt.2.2;simp;omega⟩
  obtain⟨d1,k1,w1,e1,s1,n1⟩:=one;obtain⟨d2,k2,w2,e2,s2,n2⟩:=ih (done++[o]) d1 k1 w1 (λp hp=>ho p<|Y8 _ hp) s1 n1;exact⟨d2,k2,w2,bj e1 e2,(F8 done [o] os)▸s2,n2⟩
def gs_walk{t:D×List Int->Option Bool}{f:D×List Int->Option (D×List Int)}(hn:n<=10000)(hnb:∀u,u<n->∀o∈nb u,o<n)(ht:∀d w,t (d,w)=Wb (!decide (w=[])))(hf:∀d w ws,(∀k∈w ::ws,k<n)->∃u ws' g,Tk (w ::ws) u ws'/\f (d,cl (w ::ws))=bB g (cl<|nb u) (d,cl ws')/\Lk x M nb ok u g):
  ∀(N j:Nat) (d:D) (kk ws:ZT),n<N+j->Sea nb ok x kk ws->Nm n j M d kk ws->∃d' kk',nC t f N (d,cl ws)=Wb (d',[])/\Sea nb ok x kk' []/\M d' kk'/\∀k∈kk',k<n:=by
 intro N;induction N with
 |zero=>exact λj d kk ws hN sa nt=>by have:=dA n sa.nd nt.2.1;have:=nt.2.2;omega
 |succ N ih =>
  intro j d kk ws hN sa nt;cases ws with
  |nil=>exact⟨d,kk,bj (ht d []) rfl,sa,nt.1,nt.2.1⟩
  |cons w ws =>obtain⟨u,ws',g,tk,ef,lk⟩:=hf d w ws λk hk=>nt.2.1 k<|sa.sub k hk;obtain⟨d1,k1,w1,e1,s1,n1⟩:=gs_all (j:=j+1) hn (hnb u<|nt.2.1 u<|sa.sub u tk.1) lk (nb u) [] d kk ws' (λa h=>h) (sa.take tk.1 tk.2.1 tk.2.2.1) ⟨nt.1,nt.2.1,by have:=nt.2.2;have:=tk.2.2.2;omega⟩;obtain⟨d2,k2,e2,s2⟩:=ih (j+1) d1 k1 w1 (by omega) s1.fin n1;exact⟨d2,k2,bj (ht d _)<|bj (ef.trans e1) e2,s2⟩
def vJ{t:D×List Int->Option Bool}{f:D×List Int->Option (D×List Int)}{d0:D}(hn:n<=10000)(hx:x<n)(hnb:∀u,u<n->∀o∈nb u,o<n)(h0:M d0 [x])(ht:∀d w,t (d,w)=Wb (!decide (w=[])))(hf:∀d w ws,(∀k∈w ::ws,k<n)->∃u ws' g,Tk (w ::ws) u ws'/\f (d,cl (w ::ws))=bB g (cl<|nb u) (d,cl ws')/\Lk x M nb ok u g):
  ∃d' kk',nC t f 100000 (d0,[(x:Int)])=Wb (d',[])/\Sea nb ok x kk' []/\M d' kk'/\∀k∈kk',k<n :=
 gs_walk hn hnb ht hf 100000 0 d0 [x] [x] (by omega) Sea.start ⟨h0,λk hk=>dM (bK<|Y0.mp hk) hx,rfl⟩
end
end Gr

namespace Pf
open Fl Pu Gr
section
variable {ZZ:ZX}{c:Nat}{Wf:Int}{x last:Nat}
abbrev upTo(ZZ:ZX)(c last:Nat)(y:Nat):Bool:=!dZ (key ZZ c last) (key ZZ c y)
def tN(hc:0<c)(Wl:c<=100)(hm:ZZ.length<=100)(h:∀r∈ZZ,r.length=c)(hx:x<ZZ.length*c)(hl:last<ZZ.length*c):
  ∃d ks,jV ZZ Wf (x:Int) (last:Int)=Wb d/\d.map (·.1)=cl ks/\ks.Nodup/\(∀y,y∈ks↔Rch (λa b=>b∈gE ZZ.length c Wf a) (λy=>upTo ZZ c last y=Wd) x y)/\Par (gE ZZ.length c Wf) x d:=by
 have hp:0<ZZ.length:=Nat.pos_of_ne_zero λz=>M6 x (by rw[z,Nat.zero_mul]at hx;exact hx);have hmc:ZZ.length*c<=10000:=Nat.mul_le_mul hm Wl;have hc2:c<=1000:=aO Wl (by decide);refine oq24 (vJ (D:=List<|Int×Option Int) (n:=ZZ.length*c) (nb:=gE ZZ.length c Wf) (ok:=upTo ZZ c last) (M:=λd kk=>d.map (·.1)=cl kk/\Par (gE ZZ.length c Wf) x d) (t:=λs=>Wb<|!s.2.isEmpty) hmc hx (λu i o ho=>(cG.mp ho).1) ⟨rfl,Par.start⟩ (λd w=>by cases w<;>rfl) λd u ws hu=>⟨u,ws,_,Tk.first,bj (iz hc hc2 (aO hm (by decide))<|hu u Y5)<|vI _,λo d kk w ho hin m=>by have L:=look_of (d:=d) (w:=w) (o:=(o:Int)) (v:=Wb (u:Int)) (X:=(da ZZ last o).bind λq=>Wb !q) (b:=upTo ZZ c last o)<|bj (je hc hc2 h hl (cG.mp ho).1) rfl;have hd:d.length=kk.length:=(Z5 (·.1)).symm.trans ((congrArg F6 m.1).trans (bz kk));refine⟨λz=>L.1<|z.imp (λz=>m.1▸c8.mpr z) id,λh1 h2 i h3 h4=>⟨_,L.2 (λz=>h1<|c8.mp<|m.1▸z) h2 (hd▸h3) h4,?_,m.2.add (m.1▸c8.mpr hin) ho⟩⟩;rw[M8,m.1,dW];rfl⟩) λd kk e sea mp i=>⟨d,kk,bj (dH hp h)<|bj e rfl,mp.1,sea.nd,λy=>sea.all,mp.2⟩
def mZ(hc:0<c)(Wl:c<=100)(hm:ZZ.length<=100)(h:∀r∈ZZ,r.length=c)(ZQ:ZZ.length*c<64)(hx:x<ZZ.length*c)(hl:last<ZZ.length*c):
  ∃ks:List Nat,bY ZZ Wf (x:Int) (last:Int)=Wb (cl ks)/\ks.Pairwise (·<·)/\(upTo ZZ c last x=We->ks=[])/\(upTo ZZ c last x=Wd->∀y,y∈ks↔Rch (λa b=>b∈gE ZZ.length c Wf a) (λy=>upTo ZZ c last y=Wd) x y):=by
 unfold bY;rw[je hc (by exact cj<|dM Wl (by decide)) h hl hx,fE];cases q:dZ (key ZZ c last) (key ZZ c x) with
 |true=>exact(k8 ([]) (by rw[VP rfl];rfl) .nil (λe=>rfl) (λz=>by unfold upTo at z;rw[q]at z;cases z))
 |false =>
  rw[VQ Z3];obtain⟨d,ks,e1,e2,e3,e4,_⟩:=tN (Wf:=Wf) hc Wl hm h hx hl;have hlt:∀k∈ks,k<ZZ.length*c:=λk hk=>by
   have:=(e4 k).mp hk;cases this with
   |here=>exact hx
   |on _ h1 _=>exact(cG.mp h1).1
  have hlen:ks.length<=ZZ.length*c:=dA _ e3 hlt;rw[e1,fE,e2];unfold sortI;rw[VP (by rw[bz];exact dM hlen ZQ)];refine(k8 (ks.mergeSort λa b=>decide<|a<=b) ?_ ?_ (λz=>(by unfold upTo at z;rw[q]at z;cases z)) λe y=>?_)
  ·congr 1;refine dD (le:=(·<=·)) (λa b h1 h2=>Int.le_antisymm h1 h2) ((cO _).trans ((O5 ks _).map _).symm) (eV _) ?_;rw[P8];have:=N4 (le:=λa b:Nat=>decide<|a<=b) (λa b c h1 h2=>by simp at *;exact aO h1 h2) (λa b=>by simp;lia) ks;exact this.imp λh=>by simp at h;exact M4.mpr h
  ·have s1:=N4 (le:=λa b:Nat=>decide<|a<=b) (λa b c h1 h2=>by simp at *;exact aO h1 h2) (λa b=>by simp;lia) ks;have s2:(ks.mergeSort λa b=>decide<|a<=b).Nodup:=((O5 ks _).nodup_iff).mpr e3;exact List.Pairwise.imp₂ (λa b h1 h2=>by simp at h1;lia) s1 s2
  ·rw[(O5 ks _).mem_iff];exact e4 y
end
end Pf

namespace Fl
open Pu Pf
def hk(hs:ZW)(x:Nat):Int×Int:=(hs.getD x 0,(x:Int))
def jZ(hc:0<c)(h:∀r∈ZZ,r.length=c)(hx:x<ZZ.length*c):hk ZZ.flatten x=key ZZ c x:=by unfold hk key;have:=jF hc h hx;rw[List.getD_eq_getElem?_getD,this];rfl
def xF(h1:dZ a b=Wd):dZ b a=We:=by unfold dZ at *;simp only[VS]at *;rw[VT];omega
def Cv(a:ZA):dZ a a=We:=by unfold dZ;rw[VT];lia
structure Ord(hs:ZW)(os:ZT):Prop where
 pm:os.Perm (Z9 hs.length)
 up:os.Pairwise λa b=>dZ (hk hs a) (hk hs b)=Wd
section
variable {hs:ZW}{os:ZT}
def Ord.nd(o:Ord hs os):os.Nodup:=(o.pm.nodup_iff).mpr L8
def Ord.mem(o:Ord hs os):x∈os↔x<hs.length:=by rw[o.pm.mem_iff,R4]
def Ord.len(o:Ord hs os):os.length=hs.length:=by rw[o.pm.length_eq,X1]
abbrev rk(os:ZT)(x:Nat):Nat:=os.idxOf x
def Ord.rk_lt(o:Ord hs os)(hx:x<hs.length):rk os x<hs.length:=by rw[<- o.len];exact List.idxOf_lt_length_iff.mpr<|o.mem.mpr hx
def Ord.at_rk(o:Ord hs os)(hx:x<hs.length):os[rk os x]?=Wb x:=by have h:=List.idxOf_lt_length_iff.mpr<|o.mem.mpr hx;rw[Z7 h,List.getElem_idxOf h]
def Ord.rk_at(o:Ord hs os)(h:os[i]?=Wb x):rk os x=i:=by have hi:=(Z6.mp h).1;have e:=(Z6.mp h).2;rw[<- e];exact o.nd.idxOf_getElem i hi
def Ord.lt_iff(o:Ord hs os)(hx:x<hs.length)(hy:y<hs.length):rk os x<rk os y↔dZ (hk hs x) (hk hs y)=Wd:=by
 have go:∀{x y:Nat},x<hs.length->y<hs.length->rk os x<rk os y->dZ (hk hs x) (hk hs y)=Wd:=λ{x y} hx hy h=>by have h1:=o.at_rk hx;have h2:=o.at_rk hy;have e1:=(Z6.mp h1);have e2:=(Z6.mp h2);obtain⟨l1,e1⟩:=e1;obtain⟨l2,e2⟩:=e2;have:=List.pairwise_iff_getElem.mp o.up _ _ l1 l2 h;rw[e1,e2]at this;exact this
 refine⟨go hx hy,λh=>?_⟩;rcases Nat.lt_trichotomy (rk os x) (rk os y) with z|z|z
 ·exact z
 ·have e1:=o.at_rk hx;rw[z,o.at_rk hy]at e1;cases e1;rw[Cv]at h;cases h
 ·have:=xF<|go hy hx z;rw[this]at h;cases h
def Ord.le_iff(o:Ord hs os)(hx:x<hs.length)(hy:y<hs.length):rk os x<=rk os y↔dZ (hk hs y) (hk hs x)=We:=by rw[<- W5,o.lt_iff hy hx,Bool.not_eq_true]
end
end Fl

namespace Pf
open Fl Pu L2
def rJ(hs:ZW):((Z9 hs.length).map (hk hs)).Nodup:=by
 rw[List.Nodup,P8];refine L8.imp λ{a b} hab e=>hab ?_;have:(hk hs a).2=(hk hs b).2:=by rw[e]
 unfold hk at this;simp only at this;lia
def Cw(h:hs.length<=1000000):∃os,Pu.comp (λ(y3:ZA)=>Wb<|y3.2) (lY<|(Z9 hs.length).map (hk hs))=Wb (cl os)/\Ord hs os:=by
 have pm:=jS<|(Z9 hs.length).map (hk hs);have so:=jw<|(Z9 hs.length).map (hk hs);generalize lY ((Z9 hs.length).map (hk hs))=qs at pm so;have hl:qs.length=hs.length:=by rw[pm.length_eq];simp
 rw[bX (g:=fun y:Int×Int=>y.2) (aO (bK hl) h) λx x=>rfl];have form:∀q∈qs,q=hk hs q.2.toNat:=λq hq=>by obtain⟨i,_,e⟩:=U3.mp<|pm.mem_iff.mp hq;rw[<- e];unfold hk;simp
 refine⟨qs.map λq=>q.2.toNat,?_,?_,?_⟩
 ·congr 1;unfold cl;rw[V4];refine U1 λq hq=>?_;have:=form q hq;rw[this];unfold hk;simp
 ·have:=pm.map λq=>q.2.toNat;rw[V4]at this;refine this.trans ?_;have e:((Z9 hs.length).map ((fun q:Int×Int=>q.2.toNat) ∘ hk hs))=Z9 hs.length:=by
   conv=>rhs;rw[<- List.map_id (Z9 hs.length)]
   refine U1 λi x=>?_;unfold hk;simp
  rw[e]
 ·rw[P8];have ndq:qs.Nodup:=(pm.nodup_iff).mpr (rJ hs);refine(List.Pairwise.imp_of_mem ?_<|so.and ndq);intro a b ha hb ⟨h1,h2⟩;rw[<- form a ha,<- form b hb];unfold nU at h1;unfold dZ;rw[VS]at *;obtain⟨a1,a2⟩:=a;obtain⟨b1,b2⟩:=b;have:¬ (a1=b1/\a2=b2):=λz=>h2 (by rw[z.1,z.2]);simp only at *;lia
def mw(h:i<n):k9 n (i:Int)=Wb i:=by unfold k9;rw[VP (by exact M4.mpr<|U2 _),VP (by exact U5.mpr h),W4]
def nH{S:Type}{α β:Type}{f:List α->β->Option (List α)}{p:β->Bool}{v:β->α}(h:∀s x,s.length<=B->f s x=Wb (if p x=Wd then s++[v x] else s)):∀{xs:List β} {s:List α},s.length+xs.length<=B->bB f xs s=Wb (s++(xs.filter p).map v):=by
 intro xs;induction xs with
 |nil=>exact λ{s} _=>congrArg Wb (V2 s).symm
 |cons x xs ih =>
  intro s hl;rw[X2]at hl;rw[re,h s x (by lia),fE];cases q:p x with
  |true=>rw[VP rfl,ih (by simp;lia),K6 q];simp
  |false=>rw[VQ Z3,ih (by lia),K5 (by simp[q])]
def w4(m c:Nat)(Wf:Int)(R C:Nat)(d a:Int):Bool :=
 ((decide (0<=(R:Int)+d)&&decide ((R:Int)+d<(m:Int)))&&(decide (0<=(C:Int)+a)&&decide ((C:Int)+a<(c:Int))))&&((decide<|Pu.ab d+Pu.ab a=1) || ((decide<|Wf=8)&&(decide<|Pu.ab d+Pu.ab a=2)))
def rK{m c x:Nat}{Wf:Int}(hc0:0<c)(Wl:c<=1000)(hmm:m<=1000)(hx:x<m*c):next ((m:Int),(c:Int)) Wf (x:Int)=Wb (([-1,0,1]:List Int).flatMap λd=>(([-1,0,1]:List Int).filter (w4 m c Wf (x/c) (x%c) d)).map λa=>(((x/c:Nat):Int)+d)*(c:Int)+(((x%c:Nat):Int)+a)):=by
 have d1:((x:Nat):Int)/((c:Nat):Int)=((x/c:Nat):Int):=(Int.natCast_ediv x c).symm;have d2:((x:Nat):Int)%((c:Nat):Int)=((x%c:Nat):Int):=(Int.natCast_emod x c).symm;unfold next
 simp only[bs,jY (show 0<((c:Nat):Int)/\((c:Nat):Int)<2^64 by lia),io (show 0<((c:Nat):Int) by exact U5.mpr hc0),d1,d2,ja (show -(2^64)<((c:Nat):Int)/\((c:Nat):Int)<2^64 by lia)];generalize x/c=R;generalize x%c=C;have inner:∀(d:Int) (s:ZW),s.length<=100->bB (λ(s7:ZW) (x6:Int)=>if (((decide (0<=(R:Int)+d)&&decide ((R:Int)+d<(m:Int)))&&(decide (0<=(C:Int)+x6)&&decide ((C:Int)+x6<(c:Int))))&&((decide<|Pu.ab d+Pu.ab x6=1) || ((decide<|Wf=8)&&(decide<|Pu.ab d+Pu.ab x6=2))))=Wd then (Pu.app s7<|((R:Int)+d)*(c:Int)+((C:Int)+x6)).bind λf=>Wb f else Wb s7) [-1,0,1] s =
   Wb (s++(([-1,0,1]:List Int).filter (w4 m c Wf R C d)).map λa=>((R:Int)+d)*(c:Int)+((C:Int)+a)):=λd s hs=>by
  refine nH (S:=Unit) (B:=1000) (λs x hs=>?_) (by simp;exact cj<|dM hs (by decide));show (if w4 m c Wf R C d x=Wd then _ else _)=_;cases q:w4 m c Wf R C d x with
  |true=>rw[VP rfl,VP rfl,i8 (by exact cj<|dM hs (by decide))];rfl
  |false=>rw[VQ Z3,VQ Z3]
 have l3:∀d,((([-1,0,1]:List Int).filter (w4 m c Wf R C d)).map λa=>((R:Int)+d)*(c:Int)+((C:Int)+a)).length<=3:=λd=>by rw[Z5];exact W8 _ _
 refine iK (λi s=>s=(([-1,0,1]:List Int).take i).flatMap (λd=>(([-1,0,1]:List Int).filter (w4 m c Wf R C d)).map λa=>((R:Int)+d)*(c:Int)+((C:Int)+a))/\s.length<=3*i) ⟨rfl,by simp⟩ ?_ λs e=>by rw[e.1];rfl
 rintro i d s hd ⟨es,hs⟩;have hi:i<3:=(Z6.mp hd).1;refine(eD _ (by rw[inner d s (by lia)];rfl) ?_ ?_)
 ·have:([-1,0,1]:List Int).take (i+1)=([-1,0,1]:List Int).take i++[d]:=by have e:=(Z6.mp hd).2;rw[<- e,P4]
  rw[this,List.flatMap_append,es];simp
 ·rw[X4];have:=l3 d;lia
def n0{Wf d a:Int}(h:w4 m c Wf R C d a=Wd):∃r k:Nat,(R:Int)+d=(r:Int)/\(C:Int)+a=(k:Int)/\r<m/\k<c/\(ab d+ab a=1\/(Wf=8/\ab d+ab a=2)):=by unfold w4 at h;simp only[N3,Bool.or_eq_true,VS]at h;obtain⟨⟨⟨h1,h2⟩,h3,h4⟩,h5⟩:=h;obtain⟨r,hr⟩:=D2 h1;obtain⟨k,hk⟩:=D2 h3;rw[hr]at h2;rw[hk]at h4;exact(AB r k hr hk (U5.mp h2) (U5.mp h4) h5)
def pY(a b:Int):a+(b-a)=b:=by lia
def Cy{r R:Nat}(e:(R:Int)+d=(r:Int)):ny (r:Nat) (R:Nat)=ab d:=by rw[<- xD,<- e,Int.add_comm,Int.add_sub_cancel]
def Cz(h:d=-1\/d=0\/d=1):0<=ab d/\ab d<=1:=by rcases h with rfl|rfl|rfl<;>decide
def CA(h:ab d<=1):d=-1\/d=0\/d=1:=by unfold ab at h;split at h<;>lia
def ab_nn(d:Int):0<=ab d:=by unfold ab;split<;>lia
def two_of{p q Wf:Int}(b1:0<=p/\p<=1)(b2:0<=q/\q<=1)(h:p+q=1\/(Wf=8/\p+q=2)):p+q=1\/(Wf=8/\p=1/\q=1):=by lia
def of_two{p q Wf:Int}(b1:0<=p)(b2:0<=q)(h:p+q=1\/(Wf=8/\p=1/\q=1)):p<=1/\q<=1/\(p+q=1\/(Wf=8/\p+q=2)):=by lia
def yO{r k m c:Nat}(h1:r<m)(h2:k<c):r*c+k<m*c:=by have:=L9 c<|Nat.succ_le_of_lt h1;rw[Nat.succ_mul]at this;exact cW (Nat.add_lt_add_left h2 _) this
def next_eq{m c x:Nat}{Wf:Int}(hc0:0<c)(Wl:c<=1000)(hmm:m<=1000)(hx:x<m*c):next ((m:Int),(c:Int)) Wf (x:Int)=Wb (cl<|gE m c Wf x):=by
 rw[rK hc0 Wl hmm hx];congr 1;have d3:∀{d:Int},d∈([-1,0,1]:List Int)->d=-1\/d=0\/d=1:=λ{d} h=>by simpa using h
 have d3':∀{d:Int},d=-1\/d=0\/d=1->d∈([-1,0,1]:List Int):=λ{d} h=>by simpa using h
 have val:∀{r k:Nat},((r:Int))*(c:Int)+(k:Int)=((r*c+k:Nat):Int):=by intro r k;rw[M9,J1]
 have s2:(cl<|gE m c Wf x).Pairwise (·<·):=by unfold cl gE;rw[P8];refine(J4.filter _).imp λh=>?_;exact U5.mpr h
 have s1:(([-1,0,1]:List Int).flatMap λd=>(([-1,0,1]:List Int).filter (w4 m c Wf (x/c) (x%c) d)).map λa=>(((x/c:Nat):Int)+d)*(c:Int)+(((x%c:Nat):Int)+a)).Pairwise (·<·):=by
  have base:([-1,0,1]:List Int).Pairwise (·<·):=by decide
  rw[List.pairwise_flatMap];refine⟨λd e=>?_,base.imp λ{d d'} hd u hu v hv=>?_⟩
  ·rw[P8];exact(base.filter _).imp λ{a b} h=>Int.add_lt_add_left (Int.add_lt_add_left h _) _
  ·obtain⟨a,ha,rfl⟩:=U3.mp hu;obtain⟨a',ha',rfl⟩:=U3.mp hv;obtain⟨r,k,e1,e2,_,h1,_⟩:=n0 (X7.mp ha).2;obtain⟨r',k',e3,e4,_,h2,_⟩:=n0 (X7.mp ha').2;have hr:(r:Int)<(r':Int):=by rw[<- e1,<- e3];exact Int.add_lt_add_left hd _
   rw[e1,e2,e3,e4,val,val];exact U5.mpr<|cW (yO (U5.mp hr) h1)<|R3 _ _
 have mem:∀y:Int,y∈(([-1,0,1]:List Int).flatMap λd=>(([-1,0,1]:List Int).filter (w4 m c Wf (x/c) (x%c) d)).map λa=>(((x/c:Nat):Int)+d)*(c:Int)+(((x%c:Nat):Int)+a))↔y∈cl (gE m c Wf x):=by
  intro y;rw[List.mem_flatMap,fW]
  constructor
  ·rintro⟨d,hd,hy⟩;obtain⟨a,ha,rfl⟩:=U3.mp hy;obtain⟨ha1,ha2⟩:=X7.mp ha;obtain⟨r,k,e1,e2,h1,h2,h3⟩:=n0 ha2;refine(aD (r*c+k) (cG.mpr ⟨yO h1 h2,?_⟩) (by rw[e1,e2,val]));rw[B6 h2,VS,Cy e1,Cy e2];exact two_of (Cz<|d3 hd) (Cz<|d3 ha1) h3
  ·rintro⟨o,ho,rfl⟩;obtain⟨h1,h2⟩:=cG.mp ho;have ho1:o/c<m:=Nat.div_lt_of_lt_mul (by rw[D7];exact h1);have ho2:o%c<c:=Nat.mod_lt _ hc0;unfold sI at h2;rw[VS]at h2;obtain⟨b1,b2,b3⟩:=of_two (ab_nn _) (ab_nn _) h2;refine(aD (((o/c:Nat):Int)-((x/c:Nat):Int)) (d3'<|CA b1)<|U3.mpr<|aD (((o%c:Nat):Int)-((x%c:Nat):Int)) (X7.mpr ⟨d3'<|CA b2,?_⟩) ?_)
   ·unfold w4;simp only[N3,Bool.or_eq_true,VS,pY];exact⟨(oG ⟨Int.natCast_nonneg _,U5.mpr ho1⟩ (Int.natCast_nonneg _)<|U5.mpr ho2),b3⟩
   ·rw[pY,pY,val,D7,Nat.div_add_mod]
 have n1:=s1.imp (S:=(·≠·)) λh=>Int.ne_of_lt h;have n2:=s2.imp (S:=(·≠·)) λh=>Int.ne_of_lt h;exact dD (le:=(·<·)) (λa b h1 h2=>VR h1 (by exact Int.not_lt.mpr<|Int.le_of_lt h2)) ((List.perm_ext_iff_of_nodup n1 n2).mpr mem) s1 s2
end Pf

namespace Fl
open Pu
def nats_cl(n:Nat):nats n=cl (Z9 n):=rfl
def ord_nd(hs:ZW):((Z9 hs.length).map (hk hs)).Nodup:=Pf.rJ hs
def CB(hs:ZW):∃os,BL (cl<|Z9 hs.length) ((Z9 hs.length).map (hk hs))=cl os/\Ord hs os:=by
 unfold BL;have ez:((Z9 hs.length).map (hk hs)).zip (cl<|Z9 hs.length)=(Z9 hs.length).map λ(x:Nat)=>(hk hs x,(x:Int)):=by unfold cl;rw[List.zip_map']
 rw[ez];have pm:=O5 ((Z9 hs.length).map λ(x:Nat)=>(hk hs x,(x:Int))) λa b=>nU a.1 b.1;have so:(((Z9 hs.length).map λ(x:Nat)=>(hk hs x,(x:Int))).mergeSort λa b=>nU a.1 b.1).Pairwise λa b=>nU a.1 b.1=Wd:=N4 (λa b c=>mQ a.1 b.1 c.1) (λa b=>mR a.1 b.1) _;generalize (((Z9 hs.length).map λ(x:Nat)=>(hk hs x,(x:Int))).mergeSort λa b=>nU a.1 b.1)=qs at pm so;have form:∀q∈qs,q=(hk hs q.2.toNat,(q.2.toNat:Int)):=λq hq=>by obtain⟨i,_,e⟩:=U3.mp<|pm.mem_iff.mp hq;rw[<- e];simp
 refine⟨qs.map λq=>q.2.toNat,?_,?_,?_⟩
 ·unfold cl;rw[V4];refine U1 λq hq=>?_;have:=form q hq;rw[this];simp
 ·have:=pm.map λq=>q.2.toNat;rw[V4]at this;refine this.trans ?_;have e:((Z9 hs.length).map ((fun q:(Int×Int)×Int=>q.2.toNat) ∘ λ(x:Nat)=>(hk hs x,(x:Int))))=Z9 hs.length:=by
   conv=>rhs;rw[<- List.map_id (Z9 hs.length)]
   refine U1 λi h=>?_;simp
  rw[e]
 ·rw[P8];have nd:qs.Nodup:=by rw[pm.nodup_iff,List.Nodup,P8];refine L8.imp λ{a b} hab e=>hab ?_;have:=(Prod.mk.inj e).2;lia
  refine(List.Pairwise.imp_of_mem ?_<|so.and nd);intro a b ha hb ⟨h1,h2⟩;have fa:=form a ha;have fb:=form b hb;have ne:a.2.toNat≠b.2.toNat:=λz=>h2 (by rw[fa,fb,z]);rw[fa,fb]at h1;simp only at h1;unfold nU at h1;unfold dZ;rw[VS]at *;unfold hk at *;simp only at *;lia
end Fl

namespace Pf
open Fl Pu
section
variable {ZZ:ZX}{c:Nat}
def db(hp:0<ZZ.length)(Wl:c<=1000)(hm:ZZ.length<=1000)(h:∀r∈ZZ,r.length=c):di ZZ=Wb (cl<|Z9<|ZZ.length*c):=by
 unfold di;have hb:ZZ.length*c<=1000000:=by have:=Nat.mul_le_mul hm Wl;lia
 rw[dH hp h,fE,tM ⟨by simp;lia,by simp;exact U5.mpr<|dM hm (by decide)⟩,fE];have e:(ZZ.length:Int)*(c:Int)=((ZZ.length*c:Nat):Int):=by simp
 simp only;rw[e];unfold lrng;rw[VP (oG (by lia) (by lia) (by lia)),W4,nats_cl]
def Ah{g:Zu}{f:Nat->Int×Int}:∀{l:ZT},(∀x∈l,g (x:Int)=Wb (f x))->keysOf g (cl l)=Wb (l.map f):=by
 intro l;induction l with
 |nil=>exact λa=>rfl
 |cons x l ih =>intro h;show keysOf g ((x:Int) ::cl l)=_;rw[keysOf,h x (Y1.mpr<|.inl rfl),fE,ih λy hy=>h y<|Y1.mpr<|.inr hy];rfl
def nI(hp:0<ZZ.length)(hc:0<c)(Wl:c<=1000)(hm:ZZ.length<=1000)(h:∀r∈ZZ,r.length=c)(ZQ:ZZ.length*c<64):∃os,dF ZZ=Wb (cl os)/\Ord ZZ.flatten os:=by
 have ZR:ZZ.flatten.length=ZZ.length*c:=bE h;obtain⟨os,e,o⟩:=CB ZZ.flatten;refine(aD os ?_ o);unfold dF;rw[db hp Wl hm h,fE];unfold yy;rw[Ah (f:=hk ZZ.flatten) λx hx=>by have hx:=R4.mp hx;rw[gL hc Wl h hx,jZ hc h hx],fE]
 rw[ZR]at e;have nd:=ord_nd ZZ.flatten;rw[ZR]at nd;rw[VP ⟨by rw[bz,X1];exact ZQ,nd⟩,e]
end
end Pf

namespace Pu
section
variable {α:Type}
set_option tactic.hygienic true in
def vK{k j:Int}{v:α}:find (put d k v) j=if j=k then Wb v else find d j:=by
 unfold put;split
 ·rename_i h;unfold find;induction d with
  |nil=>simp at h
  |cons e d ih =>
   rw[V7,K9,K9];by_cases hk:e.1=k
   ·rw[VP hk];by_cases hj:j=k
    ·subst hj;simp[hk]
    ·rw[VQ hj];have:¬ e.1=j:=λz=>hj<|z.symm.trans hk;simp only[this,decide_false];by_cases hr:(d.any λkv=>decide<|kv.1=k)=Wd
     ·have:=ih hr;rw[VQ hj]at this;exact this
     ·have e2:d.map (λkv=>if kv.1=k then (kv.1,v) else kv)=d:=by
       conv=>rhs;rw[<- List.map_id d]
       refine U1 λkv hkv=>?_;rw[VQ]
       ·rfl
       ·intro z;exact hr<|J8.mpr<|aD kv hkv (by simp[z])
      rw[e2]
   ·rw[VQ hk];have hr:(d.any λkv=>decide<|kv.1=k)=Wd:=by rw[E1]at h;simpa [hk] using h
    have:=ih hr;by_cases hj:e.1=j
    ·subst hj;simp[hk]
    ·simp only[hj,decide_false];exact this
 ·rename_i h;unfold find;rw[List.find?_append];by_cases hj:j=k
  ·subst hj;have:(d.find? λkv=>decide<|kv.1=j)=Wc:=by rw[List.find?_eq_none];intro kv hkv z;exact h<|J8.mpr<|aD kv hkv z
   rw[this];simp
  ·rw[VQ hj];have:¬ k=j:=λz=>hj z.symm;simp[this]
def yP{k:Int}{v:α}:(put d k v).length<=d.length+1:=by
 unfold put;split
 ·rw[Z5];exact cj<|V3 _
 ·simp
end
end Pu

namespace Fl
open Pu Gr
def Nb(m c:Nat)(Wf:Int)(a b:Nat):Prop:=a<m*c/\b<m*c/\sI c Wf a b=Wd
def Nb.sy(a b:Nat)(h:Nb m c Wf a b):Nb m c Wf b a:=⟨h.2.1,h.1,by rw[ux];exact h.2.2⟩
def kX(ha:a<m*c):Nb m c Wf a b↔b∈gE m c Wf a:=by rw[cG];exact⟨λh=>⟨h.2.1,h.2.2⟩,λh=>⟨ha,h.1,h.2⟩⟩
def Ord.inj(o:Ord hs os)(x y:Nat)(hx:x<hs.length)(hy:y<hs.length)(e:rk os x=rk os y):x=y:=by have h1:=o.at_rk hx;rw[e,o.at_rk hy]at h1;exact(Z4 h1).symm
def gM(n:Nat)(Wh:ZC)(Wi:Zs):Prop:=Wh.length=n/\∀x,x<n->Wh[x]?=Wb ((Wi x).map λ(s:Nat)=>(s:Int))
def i9(Wg:L2.c6)(par:Zx):Prop:=∀s:Nat,find Wg (s:Int)=(par s).map λp=>(Wb (p.1:Int),Wb (p.2:Int))
end Fl

namespace Pf
open Fl Pu Gr L2
section
variable {ZZ:ZX}{c:Nat}{Wf:Int}{os:ZT}{Wi:Zs}{par:Zx}{Wh:ZC}{Wg:c6}{k n:Nat}{A:ZD}
def rN{ρ:ZE}(inj:∀x y,x<n->y<n->ρ x=ρ y->x=y)(u:UF A n ρ k Wi par)(hk:k<=1000)(he:i9 Wg par)(hs:Wi s=Wb s)(h:Liv par s r):ck (ZZ,Wg) (s:Int)=Wb (r:Int):=by
 unfold ck;refine Cs (λz=>∃t:Nat,z=(t:Int)/\Wi t=Wb t/\Liv par t r) (λz=>ρ z.toNat) (eD s rfl hs h) ?_ ?_ ?_
 ·rw[W4];have:=(u.dom s (by rw[hs];exact nofun)).2;exact fD this<|dM hk (by decide)
 ·rintro z ⟨t,rfl,ht,hl⟩;refine(aD _ rfl λhb=>?_);simp only;rw[he t]at hb ⊢;cases q:par t with
  |none=>rw[q]at hb;cases hb
  |some p =>
   obtain⟨m,e⟩:=p;refine(eD (e:Int) rfl (eD e rfl ((u.pr t m e q).2.1) ?_) ?_)
   ·cases hl with
    |root z=>rw[q]at z;cases z
    |up z w=>rw[q]at z;cases z;exact w
   ·rw[W4,W4];exact u.rk_pr inj q
 ·rintro z ⟨t,rfl,ht,hl⟩ hb;simp only at hb;rw[he t]at hb;cases hl with
  |root=>rfl
  |up q _=>rw[q]at hb;cases hb
def nY(hp:0<ZZ.length)(hc:0<c)(Wl:c<=1000)(hm:ZZ.length<=1000)(h:∀r∈ZZ,r.length=c)(hh:gM (ZZ.length*c) Wh Wi)(hx:x<ZZ.length*c):
  bH (ZZ,Wf,Wh,Wg) (x:Int)=Wb (cl (((gE ZZ.length c Wf x).filter λo=>(Wi o).isSome).map λo=>(Wi o).getD 0)):=by
 unfold bH;have hb:ZZ.length*c<=1000*1000:=Nat.mul_le_mul hm Wl;simp only;rw[dH hp h,fE,iz hc Wl hm hx,fE];have mem:∀y∈cl (gE ZZ.length c Wf x),∃o:Nat,y=(o:Int)/\o<ZZ.length*c:=λy hy=>by obtain⟨o,ho,rfl⟩:=fW.mp hy;exact(aD o rfl<|(cG.mp ho).1)
 rw[fV (p:=λy=>(Wi y.toNat).isSome) (g:=λy=>(((Wi y.toNat).getD 0:Nat):Int)) (by rw[bz];have:=lH ZZ.length c Wf x;lia)]
 ·congr 1;unfold cl;rw[List.filter_map,V4,V4];rfl
 ·intro y hy;obtain⟨o,rfl,ho⟩:=mem y hy;rw[c7,hh.2 o ho,fE,W4];cases Wi o<;>rfl
 ·intro y hy hq;obtain⟨o,rfl,ho⟩:=mem y hy;rw[W4]at hq ⊢;rw[c7,hh.2 o ho,fE];cases q:Wi o with
  |none=>rw[q]at hq;cases hq
  |some s=>rfl
def CC(o:Ord hs os){g:Zu}(hg:∀x,x<hs.length->g (x:Int)=Wb (hk hs x)):∀{l:ZT} {b:Nat},(∀x∈l,x<hs.length)->b<hs.length->∃e:Nat,pH g (cl l) (b:Int) (hk hs b)=Wb (e:Int)/\(e=b\/e∈l)/\rk os e<=rk os b/\∀x∈l,rk os e<=rk os x:=by
 intro l;induction l with
 |nil=>exact λ{b} _ _=>(k8 b rfl (.inl rfl) (bW _) λa h=>nomatch h)
 |cons x l ih =>
  intro b hl hb;have hx:=hl x<|Y1.mpr<|.inl rfl;show ∃e:Nat,pH g ((x:Int) ::cl l) (b:Int) (hk hs b)=_/\_;rw[pH,hg x hx,fE];cases q:dZ (hk hs x) (hk hs b) with
  |true =>
   rw[VP rfl];exact oq14 (ih (b:=x) (λy hy=>hl y<|Y1.mpr<|.inr hy) hx) λe h1 h2 h3 h4=>(k8 e h1 (.inr<|Y1.mpr h2) (cj<|dM h3<|(o.lt_iff hx hb).mpr q)
    (λy hy=>(Y1.mp hy).elim (λz=>z▸h3) (h4 y)))
  |false =>
   rw[VQ Z3];exact oq14 (ih (b:=b) (λy hy=>hl y<|Y1.mpr<|.inr hy) hb) λe h1 h2 h3 h4=>(k8 e h1 (h2.imp id λz=>Y1.mpr<|.inr z) h3
    (λy hy=>(Y1.mp hy).elim (λz=>z▸aO h3 ((o.le_iff hb hx).mpr q)) (h4 y)))
def pZ(hc:0<c)(Wl:c<=1000)(h:∀r∈ZZ,r.length=c)(o:Ord ZZ.flatten os)(hl:∀x∈l,x<ZZ.length*c)(ne:l≠[]):∃e:Nat,eY ZZ (cl l)=Wb (e:Int)/\e∈l/\∀x∈l,rk os e<=rk os x:=by
 have ZR:ZZ.flatten.length=ZZ.length*c:=bE h;have hg:∀x,x<ZZ.flatten.length->cQ ZZ (x:Int)=Wb (hk ZZ.flatten x):=λx hx=>by rw[gL hc Wl h (by exact cW hx<|bK ZR),jZ hc h (by exact cW hx<|bK ZR)]
 unfold eY;cases l with
 |nil=>exact VR rfl ne
 |cons b l =>
  have hb:=hl b<|Y1.mpr<|.inl rfl;show ∃e:Nat,BS (λc1=>cQ ZZ c1) ((b:Int) ::cl l)=_/\_;rw[BS,hg b (by exact cW hb<|bK ZR.symm),fE];obtain⟨e,h1,h2,h3,h4⟩:=CC o (g:=λc1=>cQ ZZ c1) hg (l:=l) (b:=b) (λy hy=>by have:=hl y<|Y1.mpr<|.inr hy;exact cW this<|bK ZR.symm) (by exact cW hb<|bK ZR.symm);refine(eD e h1 ?_ λx hx=>?_)
  ·rcases h2 with z|z
   ·exact Y1.mpr<|.inl z
   ·exact Y1.mpr<|.inr z
  ·rcases Y1.mp hx with z|z
   ·rw[z];exact h3
   ·exact h4 x z
def vL(hc:0<c)(Wl:c<=1000)(h:∀r∈ZZ,r.length=c)(o:Ord ZZ.flatten os)(u:UF A (ZZ.length*c) (rk os) k Wi par)(hk:k<=1000)(he:i9 Wg par)(hel:Wg.length<=10000000)(hhs:∀s∈hs,Wi s=Wb s)(hl:hs.length<=100000)(ne:hs≠[])(x:Nat):
  ∃(met:ZT) (elder:Nat) (Wn:c6),cx (ZZ,Wg) (cl hs) (x:Int)=Wb ((elder:Int),Wn)/\(∀s∈hs,∃r,r∈met/\Liv par s r)/\(∀r∈met,∃s,s∈hs/\Liv par s r)/\elder∈met/\(∀r∈met,rk os elder<=rk os r) /\
   i9 Wn (λs=>if s∈met/\s≠elder then Wb (x,elder) else par s)/\Wn.length<=Wg.length+hs.length:=by
 have ZR:ZZ.flatten.length=ZZ.length*c:=bE h;have inj:∀x y,x<ZZ.length*c->y<ZZ.length*c->rk os x=rk os y->x=y:=λx y hx hy=>o.inj x y (by exact cW hx<|bK ZR.symm) (by exact cW hy<|bK ZR.symm);have rt:∀s,∃r,s∈hs->Liv par s r:=λs=>by
  by_cases q:s∈hs
  ·obtain⟨r,h1,_⟩:=u.liv s s<|hhs s q;exact⟨r,λa=>h1⟩
  ·exact⟨0,λz=>VR z q⟩
 obtain⟨root,hroot⟩:=show ∃root:Nat->Nat,∀s∈hs,Liv par s (root s) from ⟨λs=>(rt s).choose,λs hs=>(rt s).choose_spec hs⟩;have e1:Pu.comp (λ(y1:Int)=>ck (ZZ,Wg) y1) (cl hs)=Wb (cl<|hs.map root):=by
  rw[bX (g:=λy=>((root y.toNat:Nat):Int)) (by rw[bz];exact cj<|dM hl (by decide))]
  ·congr 1;unfold cl;rw[V4,V4];rfl
  ·intro y hy;obtain⟨s,hs',rfl⟩:=fW.mp hy;rw[W4];exact rN inj u hk he (hhs s hs')<|hroot s hs'
 have hmet:∀r∈hs.map root,r<ZZ.length*c:=λr hr=>by obtain⟨s,hs',rfl⟩:=U3.mp hr;have:=u.root (hhs s hs')<|hroot s hs';exact(u.dom _ (by rw[this];exact nofun)).1
 obtain⟨elder,g1,g2,g3⟩:=pZ hc Wl h o hmet (by simpa using ne);have e3:∃Wn,bB (λ(s5:c6) (x4:Int)=>if (!decide (x4=(elder:Int)))=Wd then if s5.length<16777216 then Wb (Pu.put s5 x4 (Wb (x:Int),Wb (elder:Int))) else Wc else Wb s5) (cl<|hs.map root) Wg=Wb Wn /\
   (∀s:Nat,find Wn (s:Int)=if s∈(hs.map root).take (cl<|hs.map root).length/\s≠elder then Wb (Wb (x:Int),Wb (elder:Int)) else find Wg (s:Int))/\Wn.length<=Wg.length+(cl<|hs.map root).length:=by
  refine iJ (λi (e:c6)=>(∀s:Nat,find e (s:Int)=if s∈(hs.map root).take i/\s≠elder then Wb (Wb (x:Int),Wb (elder:Int)) else find Wg (s:Int))/\e.length<=Wg.length+i) ⟨λs=>by simp,by exact R3 _ _⟩ ?_;rintro i y e hy ⟨h1,h2⟩;have hi:i<(cl<|hs.map root).length:=(Z6.mp hy).1;rw[bz,Z5]at hi;unfold cl at hy;rw[Y3]at hy;obtain⟨r,hr,rfl⟩:=S7.mp hy;have tk:(hs.map root).take (i+1)=(hs.map root).take i++[r]:=by have e:=(Z6.mp hr).2;rw[<- e,P4]
  by_cases q:r=elder
  ·refine(eD e (by rw[VQ (by simp[q])]) (λs=>?_) (by lia));rw[h1 s,tk];have:(s∈(hs.map root).take i++[r]/\s≠elder)↔(s∈(hs.map root).take i/\s≠elder):=by
    rw[Y9,Y0]
    constructor
    ·rintro⟨z|z,w⟩
     ·exact⟨z,w⟩
     ·exact VR (z.trans q) w
    ·rintro⟨z,w⟩;exact⟨.inl z,w⟩
   simp only[this]
  ·refine(eD _ (by rw[VP (by simp;(clear tk hy hr hi h2 h1 g3 g2 g1 hmet e1 hroot rt inj ZR ne hl hhs hel he hk u o h Wl hc;lia)),VP (by lia)]) (λs=>?_) (by have:=yP (d:=e) (k:=(r:Int)) (v:=(Wb (x:Int),Wb (elder:Int)));lia));rw[vK,tk];by_cases qs:s=r
   ·subst qs;rw[VP rfl,VP ⟨by simp,q⟩]
   ·rw[VQ (by (clear q tk hy hr hi h2 h1 g3 g2 g1 hmet e1 hroot rt inj ZR ne hl hhs hel he hk u o h Wl hc;lia)),h1 s];have:(s∈(hs.map root).take i++[r]/\s≠elder)↔(s∈(hs.map root).take i/\s≠elder):=by
     rw[Y9,Y0]
     constructor
     ·rintro⟨z|z,w⟩
      ·exact⟨z,w⟩
      ·exact VR z qs
     ·rintro⟨z,w⟩;exact⟨.inl z,w⟩
    simp only[this]
 obtain⟨Wn,f1,f2,f3⟩:=e3;refine⟨hs.map root,elder,Wn,?_,(λs hs'=>(aD (root s) (U3.mpr<|aD s hs' rfl)<|hroot s hs')),(λr hr=>?_),g2,g3,(λs=>?_),?_⟩
 ·unfold cx;simp only;rw[e1,fE,g1,fE,f1,fE]
 ·obtain⟨s,hs',rfl⟩:=U3.mp hr;exact(aD s hs'<|hroot s hs')
 ·show find Wn (s:Int)=(if s∈hs.map root/\s≠elder then Wb (x,elder) else par s).map _;rw[f2 s,bz,List.take_length];by_cases q:s∈hs.map root/\s≠elder
  ·rw[VP q,VP q];rfl
  ·rw[VQ q,VQ q];exact he s
 ·rw[bz,Z5]at f3;exact f3
def vM(hp:0<ZZ.length)(hc:0<c)(Wl:c<=1000)(hm:ZZ.length<=1000)(h:∀r∈ZZ,r.length=c)(ZQ:ZZ.length*c<1000)(o:Ord ZZ.flatten os)(u:UF (Nb ZZ.length c Wf) (ZZ.length*c) (rk os) k Wi par)(hk:k<=1000)(he:i9 Wg par)(hel:Wg.length<=k*1000)(hh:gM (ZZ.length*c) Wh Wi)(hx:x<ZZ.length*c)(hr:rk os x=k):∃homes' Wn home' par',cR (ZZ,Wf,Wh,Wg) (x:Int)=Wb (homes',Wn)/\UF (Nb ZZ.length c Wf) (ZZ.length*c) (rk os) (k+1) home' par'/\i9 Wn par'/\Wn.length<=(k+1)*1000/\gM (ZZ.length*c) homes' home':=by
 have ZR:ZZ.flatten.length=ZZ.length*c:=bE h;have inj:∀x y,x<ZZ.length*c->y<ZZ.length*c->rk os x=rk os y->x=y:=λx y hx hy=>o.inj x y (by exact cW hx<|bK ZR.symm) (by exact cW hy<|bK ZR.symm);have nbl:=lH ZZ.length c Wf x;unfold cR;rw[nY hp hc Wl hm h hh hx,fE];have set_ok:∀v:Nat,gM (ZZ.length*c) (Wh.set x<|some (v:Int)) (λy=>if y=x then Wb v else Wi y):=λv=>by
  refine⟨by rw[T1];exact hh.1,λy hy=>?_⟩;show _=Wb ((if y=x then Wb v else Wi y).map _);rw[K4];by_cases e:x=y
  ·subst e;rw[VP rfl,VP (by rw[hh.1];exact hx),VP rfl];rfl
  ·rw[VQ e,VQ λz=>e z.symm];exact hh.2 y hy
 have hix:k9 Wh.length (x:Int)=Wb x:=mw (by rw[hh.1];exact hx);generalize eh:((gE ZZ.length c Wf x).filter λo=>(Wi o).isSome).map (λo=>(Wi o).getD 0)=hs;have memhs:∀s,s∈hs↔∃o',Nb ZZ.length c Wf x o'/\Wi o'=Wb s:=λs=>by
  rw[<- eh,U3]
  constructor
  ·rintro⟨o',h1,h2⟩;obtain⟨h3,h4⟩:=X7.mp h1;obtain⟨t,ht⟩:=Option.isSome_iff_exists.mp h4;rw[ht]at h2;exact(aD o' ((kX hx).mpr h3) (by rw[ht];exact congrArg Wb h2))
  ·rintro⟨o',h1,h2⟩;exact(aD o' (X7.mpr ⟨(kX hx).mp h1,by rw[h2];rfl⟩) (by rw[h2];rfl))
 have hlen:hs.length<=1000:=by rw[<- eh,Z5];have:=W8 (λo=>(Wi o).isSome)<|gE ZZ.length c Wf x;exact cj<|dM this<|dM nbl ZQ
 by_cases ne:hs=[]
 ·refine⟨_,_,(λy=>if y=x then Wb x else Wi y),par,?_,?_,he,(by lia),set_ok x⟩
  ·rw[ne,VQ (by simp),fE];simp only;rw[hix,fE]
  ·refine u.alone Nb.sy inj hx hr (λo' h1 h2=>?_) (VP rfl) λy hy=>VQ hy;obtain⟨s,hs'⟩:=u.has o' h2;have:s∈hs:=(memhs s).mpr (aD o' h1 hs');rw[ne]at this;cases this
 ·obtain⟨met,elder,Wn,g1,g2,g3,g4,g5,g6,g7⟩:=vL hc Wl h o u hk he (by lia) (hs:=hs) (λs hs'=>by refine bN ((memhs s).mp hs') λo' h1 h2=>?_;exact u.own o' s h2) (aO hlen (by decide)) ne x
  refine⟨_,_,(λy=>if y=x then Wb elder else Wi y),(λs=>if s∈met/\s≠elder then Wb (x,elder) else par s),?_,?_,g6,(by lia),set_ok elder⟩
  ·rw[VP (by cases hs with|nil=>exact VR rfl ne|cons=>rfl),g1,fE];simp only;rw[hix,fE]
  ·refine u.meet Nb.sy inj (met:=met) (elder:=elder) hx hr (λo' s h1 h2=>g2 s<|(memhs s).mpr (aD o' h1 h2)) (λr hr'=>?_) g4 g5 (VP rfl) (λy hy=>VQ hy) (λs h1 h2=>VP ⟨h1,h2⟩) λs hs'=>VQ hs';obtain⟨s,h1,h2⟩:=g3 r hr';obtain⟨o',h3,h4⟩:=(memhs s).mp h1;exact(eB o' s h3 h4 h2)
def kr(hp:0<ZZ.length)(hc:0<c)(Wl:c<=1000)(hm:ZZ.length<=1000)(h:∀r∈ZZ,r.length=c)(ZQ:ZZ.length*c<1000)(o:Ord ZZ.flatten os)(Ai:∀i x,ks[i]?=Wb x->x<ZZ.length*c/\rk os x=i):∃Wh Wg Wi par,fT ZZ Wf (cl ks)=Wb (ZZ,Wf,Wh,Wg) /\
  UF (Nb ZZ.length c Wf) (ZZ.length*c) (rk os) ks.length Wi par/\i9 Wg par/\gM (ZZ.length*c) Wh Wi:=by
 have ZR:ZZ.flatten.length=ZZ.length*c:=bE h;have e0:jW ZZ=Wb ((Z9<|ZZ.length*c).map λz=>Wc):=by unfold jW;rw[db hp Wl hm h,fE,bX (g:=λz=>(Wc:ZK)) (by rw[bz,X1];exact cj<|fD ZQ (by decide)) λz z=>rfl];congr 1;unfold cl;rw[V4];rfl
 have hkl:∀i,i<ks.length->i<1000:=λi hi=>by obtain⟨h1,h2⟩:=Ai i _<|Z7 hi;have:=o.rk_lt (x:=ks[i]) (by exact cW h1<|bK ZR.symm);exact dM (bK h2.symm)<|fD this<|dM (bK ZR) ZQ
 unfold fT;rw[e0,fE];have key:∃w,(bB (λ(s3:List (Option Int)×c6) (x2:Int)=>(cR (ZZ,Wf,s3.1,s3.2) x2).bind λc=>Wb (c.1,c.2)) (cl ks) ((Z9<|ZZ.length*c).map λz=>Wc,[])).bind (λs=>Wb (ZZ,Wf,s.1,s.2))=Wb w /\
   ∃Wi par,UF (Nb ZZ.length c Wf) (ZZ.length*c) (rk os) (cl ks).length Wi par/\i9 w.2.2.2 par/\gM (ZZ.length*c) w.2.2.1 Wi/\w.1=ZZ/\w.2.1=Wf:=by
  refine yJ (λi s=>∃Wi par,UF (Nb ZZ.length c Wf) (ZZ.length*c) (rk os) i Wi par/\i9 s.2 par/\s.2.length<=i*1000/\gM (ZZ.length*c) s.1 Wi) ?_ ?_ ?_
  ·exact⟨λz=>Wc,λz=>Wc,UF.start,λz=>rfl,by simp,by simp,λx hx=>by rw[Y3,Q4 hx];rfl⟩
  ·rintro i y ⟨Wh,Wg⟩ hy zq;obtain⟨Wi,par,u,he,hel,hh⟩:=zq;unfold cl at hy;rw[Y3]at hy;obtain⟨x,hx,rfl⟩:=S7.mp hy;obtain⟨h1,h2⟩:=Ai i x hx;have hi:=hkl i (Z6.mp hx).1;obtain⟨homes',Wn,home',par',g1,g2,g3,g4,g5⟩:=vM hp hc Wl hm h ZQ o u (by exact cj hi) he hel hh h1 h2;simp only;exact aD (homes',Wn) (by rw[g1];rfl) ⟨home',par',g2,g3,g4,g5⟩
  ·rintro⟨Wh,Wg⟩ zq;obtain⟨Wi,par,u,he,hel,hh⟩:=zq;exact aD _ rfl<|AB Wi par u he hh rfl rfl
 obtain⟨w,e1,Wi,par,u,he,hh,e2,e3⟩:=key;obtain⟨a,b,d,e⟩:=w;simp only at e2 e3;subst e2 e3;rw[bz]at u;exact⟨d,e,Wi,par,e1,u,he,hh⟩
def qa(o:Ord hs os)(h:os[i]?=Wb x):x<hs.length/\rk os x=i:=⟨o.mem.mp<|X6 h,o.rk_at h⟩
def xG(hp:0<ZZ.length)(hc:0<c)(Wl:c<=1000)(hm:ZZ.length<=1000)(h:∀r∈ZZ,r.length=c)(ZQ:ZZ.length*c<64):∃os Wi par,dF ZZ=Wb (cl os)/\Ord ZZ.flatten os/\UF (Nb ZZ.length c Wf) (ZZ.length*c) (rk os) (ZZ.length*c) Wi par /\
  oE ZZ Wf=Wb ((os.filter λx=>decide<|Wi x=Wb x).map λ(x:Nat)=>((x:Int),(par x).map λp=>(p.1:Int),(par x).map λp=>(p.2:Int)))/\∃Wh,vA ZZ Wf=Wb Wh/\gM (ZZ.length*c) Wh Wi:=by
 have ZR:ZZ.flatten.length=ZZ.length*c:=bE h;obtain⟨os,eo,o⟩:=nI hp hc Wl hm h ZQ;have olen:=o.len;obtain⟨Wh,Wg,Wi,par,e1,u,he,hh⟩:=kr (Wf:=Wf) hp hc Wl hm h (fD ZQ (by decide)) o (ks:=os) λi x hx=>by refine tZ (qa o hx) λh1 h2=>?_;exact⟨by exact cW h1<|bK ZR,h2⟩
 rw[olen,ZR]at u;refine⟨os,Wi,par,eo,o,u,?_,Wh,by unfold vA;rw[eo,fE,e1];rfl,hh⟩;unfold oE;rw[eo,fE,e1,fE];simp only;rw[fV (p:=λy=>decide<|Wi y.toNat=Wb y.toNat) (g:=λy=>y) (by rw[bz];exact cj<|dM (bK olen)<|dM (bK ZR)<|fD ZQ (by decide))]
 ·rw[fE,List.map_id'];have ef:(cl os).filter (λy=>decide<|Wi y.toNat=Wb y.toNat)=cl (os.filter λx=>decide<|Wi x=Wb x):=by unfold cl;rw[List.filter_map];rfl
  rw[ef];unfold eN;have fl:=W8 (λx=>decide<|Wi x=Wb x) os;rw[bX (g:=λy=>(y,((Pu.find Wg y).getD (Wc,Wc)).1,((Pu.find Wg y).getD (Wc,Wc)).2)) (by rw[bz];exact cj<|dM fl<|dM (bK olen)<|dM (bK ZR)<|fD ZQ (by decide)) λa a=>rfl];congr 1;unfold cl;rw[V4];refine U1 λx a=>?_;simp only[Function.comp];rw[he x];cases par x<;>rfl
 ·intro y hy;obtain⟨x,hx,rfl⟩:=fW.mp hy;have hx':=o.mem.mp hx;rw[c7,hh.2 x (by exact cW hx'<|bK ZR),fE,W4];congr 1;cases q:Wi x with
  |none=>simp
  |some s=>simp;lia
 ·intro y hy _;rfl
end
def qb{α:Type}{l:List α}{p:α×α}(h:p∈l.zip l):p.1=p.2:=by obtain⟨i,hi⟩:=L6.mp h;obtain⟨h1,h2⟩:=List.getElem?_zip_eq_some.mp hi;rw[h1]at h2;exact Z4 h2
end Pf

namespace Pu
def tO{α:Type}(l:List α)(a:α):(l++[a]).getLast?=Wb a:=by simp
end Pu

namespace Fl
open Pu Gr
def Ord.uniq{hs:ZW}{os os':ZT}(o:Ord hs os)(o':Ord hs os'):os=os' :=
 dD (le:=λa b=>dZ (hk hs a) (hk hs b)=Wd) (λa b h1 h2=>by rw[xF h1]at h2;cases h2) (o.pm.trans o'.pm.symm) o.up o'.up
def vN(a:Int):ny a a=0:=by unfold ny;rw[Int.sub_self];rfl
def vO(h:1<=a):ny ((a-1:Nat):Int) (a:Int)=1:=by obtain⟨b,rfl⟩:=Nat.exists_eq_add_of_le' h;rw[Nat.add_sub_cancel,M9];unfold ny;split<;>lia
def nb_down(hc:0<c)(hx:x<m*c)(h0:0<x):∃y,y<x/\Nb m c Wf x y:=by
 by_cases h:x%c=0
 ·have h1:c<=x:=by
   rcases Nat.lt_or_ge x c with z|z
   ·rw[Nat.mod_eq_of_lt z]at h;lia
   ·exact z
  refine⟨x-c,by lia,hx,by exact dM (Q8 _ _) hx,?_⟩;unfold sI;rw[VS];refine .inl ?_;have e1:(x-c)/c=x/c-1:=by have:=Nat.sub_mul_div x c 1;rw[Nat.mul_one]at this;exact this
  have e2:(x-c)%c=x%c:=(Nat.mod_eq_sub_mod h1).symm;have h2:1<=x/c:=(Nat.le_div_iff_mul_le hc).mpr (by lia);rw[e1,e2,vN,vO h2];rfl
 ·have e:x=x/c*c+x%c:=by rw[D7];exact(Nat.div_add_mod x c).symm
  have h1:x%c<c:=Nat.mod_lt _ hc;have h2:x-1=x/c*c+(x%c-1):=by lia
  refine⟨x-1,by lia,hx,by exact dM (Q8 _ _) hx,?_⟩;obtain⟨e1,e2⟩:=lG (i:=x/c) (j:=x%c-1) (c:=c) (by exact dM (Q8 _ _) h1);unfold sI;rw[VS];refine .inl ?_;rw[h2,e1,e2,vN,vO (Nat.pos_of_ne_zero h)];rfl
end Fl

namespace Pf
open Fl Pu Gr L2
def nJ(p:List (List Int)×c6)(s:Int):(aV p<|some s).bind (λx=>x)=ck p s:=by
 unfold aV ck;have:∀(n:Nat) (s:Int),(nC (λ(s2:ZK)=>Wb<|(uW p.2 s2).isSome) (λ(s2:ZK)=>(((s2).bind λx3=>find p.2 x3).bind λx4=>Wb<|x4.2).bind λhere6=>Wb<|here6) n<|some s).bind (λx=>x) =
   nC (λ(s2:Int)=>Wb<|(find p.2 s2).isSome) (λ(s2:Int)=>(((find p.2 s2).bind λx3=>Wb<|x3.2).bind λx5=>x5).bind λhere6=>Wb<|here6) n s:=λn=>by
  induction n with
  |zero=>intro s;rfl
  |succ n ih =>
   intro s;rw[nC,nC,bs,bs];have e0:uW p.2 (Wb s)=find p.2 s:=rfl;simp only[e0,fE];cases q:find p.2 s with
   |none=>rfl
   |some e =>
    simp only[Option.isSome_some,if_true,fE];cases q2:e.2 with
    |none =>
     cases n with
     |zero=>rfl
     |succ n=>rw[nC];rfl
    |some e2=>exact ih e2
 have h:=this 100000 s;rw[rV];show Option.bind _ (λx=>x)=_;rw[h];cases nC (λ(s2:Int)=>Wb<|(find p.2 s2).isSome) (λ(s2:Int)=>(((find p.2 s2).bind λx3=>Wb<|x3.2).bind λx5=>x5).bind λhere6=>Wb<|here6) 100000 s<;>rfl
def qL(p:List (List Int)×c6):aV p Wc=Wb Wc:=by unfold aV;rw[nC];rfl
def qM:bS=cx:=by funext p l m;unfold bS cx;simp only[nJ]
def qN:cS=cR:=by funext p x;unfold cS cR;rw[qM]
section
variable {ZZ:ZX}{Wf:Int}
def tP{ρ:ZE}{A:ZD}{Wi:Zs}{par:Zx}(inj:∀x y,x<n->y<n->ρ x=ρ y->x=y)(u:UF A n ρ k Wi par)(hk:k<=1000)(he:i9 Wg par)(hh:gM n Wh Wi)(hx:x<n):
  (Wi x=Wc/\aN (ZZ,Wf,Wh,Wg) (x:Int)=Wb Wc)\/∃r,Lv n ρ k x/\Fst A n ρ k x r/\aN (ZZ,Wf,Wh,Wg) (x:Int)=Wb (Wb (r:Int)):=by
 unfold aN;simp only;rw[c7,hh.2 x hx,bs];cases q:Wi x with
 |none=>exact .inl ⟨rfl,qL _⟩
 |some s =>
  obtain⟨r,h1,h2⟩:=u.liv x s q;refine .inr<|eD r (u.dom x (by rw[q];exact nofun)) h2 ?_;have e:=rN (ZZ:=ZZ) inj u hk he (u.own x s q) h1;rw[<- nJ]at e;show aV (ZZ,Wg) (Wb (s:Int))=_;cases z:aV (ZZ,Wg) (Wb (s:Int)) with
  |none=>rw[z]at e;cases e
  |some w=>rw[z]at e;rw[show w=Wb (r:Int) from e]
end
end Pf

namespace Gr
section
variable {A:ZD}{n k:Nat}{ρ:ZE}{Wi home':Zs}{par par':Zx}
def Rch.upto(h:k<=k')(r:Rch A (Lv n ρ k) x y):Rch A (Lv n ρ k') x y:=r.mono λa a h1 h2=>⟨h1,h2.1,cW h2.2 h⟩
def Fst.no(inj:∀x y,x<n->y<n->ρ x=ρ y->x=y)(h:k<=k')(f:Fst A n ρ k' s s)(g:Fst A n ρ k s e):e=s :=
 inj e s g.lv.1 f.lv.1 (T9 (g.min s .here)<|f.min e<|g.rch.upto h)
def UF.home_eq(inj:∀x y,x<n->y<n->ρ x=ρ y->x=y)(u:UF A n ρ k Wi par)(u':UF A n ρ k home' par')(x:Nat):Wi x=home' x:=by
 cases q:Wi x with
 |none =>
  cases q':home' x with
  |none=>rfl
  |some s =>obtain⟨s',hs⟩:=u.has x<|u'.dom x (by rw[q'];exact nofun);rw[q]at hs;cases hs
 |some s =>obtain⟨s',hs⟩:=u'.has x<|u.dom x (by rw[q];exact nofun);rw[hs,(u.hm x s q).same inj (u'.hm x s' hs)]
def UF.par_some(inj:∀x y,x<n->y<n->ρ x=ρ y->x=y)(u:UF A n ρ k Wi par)(u':UF A n ρ k home' par')(h:par s=Wb (m,e)):par' s=Wb (m,e):=by
 obtain⟨h1,_,h3,_,h5,h6,h7⟩:=u.pr s m e h;rw[u.home_eq inj u']at h1;cases q:par' s with
 |none =>
  obtain⟨r,l,f⟩:=u'.liv s s h1;cases l with
  |root=>exact VR (Fst.no inj (show ρ m+1<=k from h3.2) f h6) h7
  |up z _=>rw[q]at z;cases z
 |some p =>
  obtain⟨m',e'⟩:=p;obtain⟨_,_,g3,_,g5,g6,g7⟩:=u'.pr s m' e' q;have em:ρ m=ρ m':=by
   rcases Nat.lt_trichotomy (ρ m) (ρ m') with z|z|z
   ·exact VR (Fst.no inj z g5 h6) h7
   ·exact z
   ·exact VR (Fst.no inj z h5 g6) g7
  have:=inj m m' h3.1 g3.1 em;subst this;rw[h6.same inj g6]
def UF.par_eq(inj:∀x y,x<n->y<n->ρ x=ρ y->x=y)(u:UF A n ρ k Wi par)(u':UF A n ρ k home' par')(s:Nat):par s=par' s:=by
 cases q:par s with
 |some p=>exact(u.par_some inj u' q).symm
 |none =>
  cases q':par' s with
  |none=>rfl
  |some p=>rw[u'.par_some inj u q']at q;cases q
end
end Gr

namespace Pf
open Fl Pu Gr
abbrev cs(l:ZT):List (Option Int):=l.map λ(x:Nat)=>Wb (x:Int)
def CF{r:Nat}:Wb (r:Int)∈cs l↔r∈l:=by rw[U3];exact⟨λ⟨a,h,e⟩=>by rw[<- Int.ofNat.inj (Z4 e)];exact h,λh=>(aD r h rfl)⟩
def xH(l:ZT):(cs l).length=l.length:=Z5 ..
section
variable {n:Nat}
def tQ(A:ZD)(n:Nat)(ρ:ZE)(k:Nat)(ls:ZC):Prop :=
 ls.length=n/\∀x,x<n->ρ x<k->∃r:Nat,ls[x]?=Wb (Wb (r:Int))/\Fst A n ρ k x r
def shut_eq{x e:Nat}{f:(List<|Option<|Int)×(List<|Int×((Option<|Int)×(Option<|Int)))->Option Int->Option ((List<|Option<|Int)×(List<|Int×((Option<|Int)×(Option<|Int))))}(hS:∀{l1 e1},l1[x]?=Wb (Wb (e:Int))->f (l1,e1) (Wb (e:Int))=Wb (l1,e1))(hO:∀{l1 e1} {r:Nat},l1[x]?=Wb (Wb (e:Int))->¬ (Wb (r:Int):Option Int)=Wb (e:Int)->l1.length<=1000000->e1.length<16777216->f (l1,e1) (Wb (r:Int))=Wb (l1.map λv=>if v=Wb (r:Int) then Wb (e:Int) else v,Pu.put e1 (r:Int) (Wb (x:Int),Wb (e:Int)))){par:Zx}(hlx:ls[x]?=Wb (Wb (e:Int)))(hl:ls.length<=1000)(hm:met.length<=M)(hM:M<=1000)(hel:ends.length<=1000000)(he:i9 ends par):
  ∃ls' Wt,bB f (cs met) (ls,ends)=Wb (ls',Wt) /\
   ls'=ls.map (λv=>if v∈cs met/\v≠Wb (e:Int) then Wb (e:Int) else v)/\i9 Wt (λs=>if s∈met/\s≠e then Wb (x,e) else par s)/\Wt.length<=ends.length+M:=by
 have key:=iJ (f:=f)
  (λi s=>s.1=ls.map (λv=>if v∈cs (met.take i)/\v≠Wb (e:Int) then Wb (e:Int) else v)/\s.2.length<=ends.length+i/\∀t:Nat,find s.2 (t:Int)=if t∈met.take i/\t≠e then Wb (Wb (x:Int),Wb (e:Int)) else find ends (t:Int)) (xs:=cs met) (s:=(ls,ends)) (oG ?_ (bW _) (λt=>by simp)) ?_
 ·obtain⟨zp,e1,h1,h2,h3⟩:=key;obtain⟨ls',Wt⟩:=zp;rw[xH]at h1 h2 h3;rw[List.take_length]at h1 h3;refine⟨ls',Wt,e1,h1,(λt=>?_),aO h2<|E5 hm _⟩;show find Wt (t:Int)=(if t∈met/\t≠e then Wb (x,e) else par t).map _;rw[show find Wt (t:Int)=_ from h3 t];by_cases q:t∈met/\t≠e
  ·rw[VP q,VP q];rfl
  ·rw[VQ q,VQ q];exact he t
 ·simp
 ·rintro i y ⟨l1,e1⟩ hy zq;obtain⟨h1,h2,h3⟩:=zq;simp only at h1 h2 h3 ⊢;have hi:i<met.length:=by have:=(Z6.mp hy).1;rwa [xH]at this
  rw[Y3]at hy;obtain⟨r,hr,rfl⟩:=S7.mp hy;have tk:met.take (i+1)=met.take i++[r]:=by have e:=(Z6.mp hr).2;rw[<- e,P4]
  have ex:l1[x]?=Wb (Wb (e:Int)):=by rw[h1,Y3,hlx];simp
  have mt:∀v:Option Int,v∈cs (met.take<|i+1)↔v∈cs (met.take i)\/v=Wb (r:Int):=λv=>by rw[tk];unfold cs;rw[M8,Y9];simp
  by_cases q:r=e
  ·refine(k8 _ (q.symm▸hS ex) ?_ (K3 h2) λt=>?_)
   ·rw[h1];refine U1 λv a=>?_;have:(v∈cs (met.take i)/\v≠Wb (e:Int))↔(v∈cs (met.take<|i+1)/\v≠Wb (e:Int)):=by rw[mt,q];exact⟨λz=>⟨.inl z.1,z.2⟩,λz=>⟨z.1.resolve_right z.2,z.2⟩⟩
    simp only[this]
   ·rw[h3 t,tk];have:(t∈met.take i++[r]/\t≠e)↔(t∈met.take i/\t≠e):=by rw[Y9,Y0,q];exact⟨λz=>⟨z.1.resolve_right z.2,z.2⟩,λz=>⟨.inl z.1,z.2⟩⟩
    simp only[this]
  ·have q':¬ (Wb (r:Int):Option Int)=Wb (e:Int):=λz=>q<|Int.ofNat.inj<|Z4 z;refine(k8 _ (hO ex q' (by rw[h1,Z5];exact aO hl (by decide)) (by lia)) ?_ ?_ λt=>?_)
   ·simp only;rw[h1,V4];refine U1 λv a=>?_;simp only[Function.comp];by_cases z:v∈cs (met.take i)/\v≠Wb (e:Int)
    ·rw[VP z,VQ λw=>q' w.symm,VP ⟨(mt v).mpr (.inl z.1),z.2⟩]
    ·rw[VQ z];by_cases w:v=Wb (r:Int)
     ·rw[VP w,VP ⟨(mt v).mpr (.inr w),by rw[w];exact q'⟩]
     ·rw[VQ w,VQ λy=>z ⟨((mt v).mp y.1).resolve_right w,y.2⟩]
   ·have:=yP (d:=e1) (k:=(r:Int)) (v:=(Wb (x:Int),Wb (e:Int)));simp only;lia
   ·simp only;rw[vK,tk];by_cases qs:t=r
    ·subst qs;rw[VP rfl,VP ⟨by simp,q⟩]
    ·rw[VQ (by lia),h3 t];have:(t∈met.take i++[r]/\t≠e)↔(t∈met.take i/\t≠e):=by rw[Y9,Y0];exact⟨λz=>⟨z.1.resolve_right qs,z.2⟩,λz=>⟨.inl z.1,z.2⟩⟩
     simp only[this]
def Aj{A:ZD}{ρ:ZE}(sy:∀a b,A a b->A b a)(inj:∀x y,x<n->y<n->ρ x=ρ y->x=y)(hx:x<n)(hr:ρ x=k)(hA:∀a b,A a b->b<n)(hmet:∀r,r∈met↔∃o,A x o/\ρ o<k/\Fst A n ρ k o r)(fe:Fst A n ρ (k+1) x e)(hl:tQ A n ρ k ls):
  tQ A n ρ (k+1) ((ls.set x<|some (e:Int)).map λv=>if v∈cs met/\v≠Wb (e:Int) then Wb (e:Int) else v):=by
 have lx:Lv n ρ (k+1) x:=⟨hx,by rw[hr];exact V3 _⟩;have hlx:(ls.set x<|some (e:Int))[x]?=Wb (Wb (e:Int)):=by rw[K4,VP rfl,VP (by rw[hl.1];exact hx)]
 refine⟨by rw[Z5,T1];exact hl.1,λy hy hyk=>?_⟩;rw[Y3];by_cases q:y=x
 ·subst q;exact(aD e (by rw[hlx,Option.map_some,VQ λz=>z.2 rfl]) fe)
 ·have hyk':ρ y<k:=by
   rcases E4.mp hyk with z|z
   ·exact z
   ·exact VR (inj y x hy hx<|z.trans hr.symm) q
  obtain⟨r,e1,f⟩:=hl.2 y hy hyk';rw[K4,VQ λz=>q z.symm,e1,Option.map_some];by_cases hm:r∈met
  ·refine(aD e ?_ ?_)
   ·by_cases z:r=e
    ·rw[z,VQ λw=>w.2 rfl]
    ·rw[VP ⟨CF.mpr hm,λw=>z<|Int.ofNat.inj<|Z4 w⟩]
   ·obtain⟨o,h1,h2,h3⟩:=(hmet r).mp hm;have lo:Lv n ρ k o:=⟨hA _ _ h1,h2⟩;have ry:Rch (A) (Lv n ρ k) o y:=h3.rch.trans<|f.rch.symm sy ⟨hy,hyk'⟩;exact Fst.of_rch sy lx ((Rch.on .here h1 lo.up).trans ry.up) fe
  ·refine⟨r,by rw[VQ λz=>hm<|CF.mp z.1],f.rch.up,f.lv.up,λz hz=>?_⟩;rcases Rch.new sy inj hx hr ⟨hy,hyk'⟩ hz with h|zr1_
   ·exact f.min z h
   ·obtain⟨o,h1,h2,h3,_⟩:=zr1_;exact VR ((hmet r).mpr (eD o h1 h2.2<|Fst.of_rch sy ⟨hy,hyk'⟩ h3 f)) hm
end
end Pf

namespace Gr
open Fl Pu
inductive Wet(n:Nat)(nb:ZG)(rim ok:ZH):Nat->Prop where
 |rim {x:Nat}:x<n->rim x=Wd->ok x=Wd->Wet n nb rim ok x
 |on {y z:Nat}:Wet n nb rim ok y->z∈nb y->ok z=Wd->Wet n nb rim ok z
section
variable {n:Nat}{nb:ZG}{rim ok ok':ZH}{x u:Nat}{R K W:ZT}
def Wet.mono(h:∀x,ok x=Wd->ok' x=Wd)(w:Wet n nb rim ok x):Wet n nb rim ok' x:=by
 induction w with
 |rim a b c=>exact .rim a b<|h _ c
 |on _ b c ih=>exact .on ih b<|h _ c
structure Iv(n:Nat)(nb:ZG)(rim ok:ZH)(R K W:ZT):Prop where
 rn:R.Nodup
 kn:K.Nodup
 wn:W.Nodup
 kl:∀k∈K,k<n
 rk:∀r∈R,r∈K
 wk:∀w∈W,w∈K
 wr:∀w∈W,w∉R
 wo:∀w∈W,ok w=Wd
 op:∀k∈K,ok k=Wd->k∈R\/k∈W
 nbk:∀r∈R,∀o∈nb r,o∈K
 rm:∀x,x<n->rim x=Wd->x∈K
 src:∀k∈K,rim k=Wd\/∃r,r∈R/\k∈nb r
 wet:∀r∈R,Wet n nb rim ok r
def Iv.begin(I:Iv n nb rim ok' R K [])(h:∀x,ok' x=Wd->ok x=Wd):Iv n nb rim ok R K (K.filter λk=>!decide (k∈R)&&ok k) :=
 have f:∀w∈K.filter λk=>!decide (k∈R)&&ok k,w∈K/\w∉R/\ok w=Wd:=λw hw=>by have:=X7.mp hw;rw[N3,Bool.not_eq_true',VT]at this;exact this
 ⟨I.rn,I.kn,I.kn.filter _,I.kl,I.rk,λw hw=>(f w hw).1,λw hw=>(f w hw).2.1,λw hw=>(f w hw).2.2,λk hk ho=>by
  by_cases z:k∈R
  ·exact .inl z
  ·exact .inr<|X7.mpr ⟨hk,by rw[VW z,ho];rfl⟩,I.nbk,I.rm,I.src,λr hr=>(I.wet r hr).mono h⟩
def n4{l m:ZT}(h1:l.Nodup)(h2:m.Nodup)(h:∀a∈m,a∉l):(l++m).Nodup:=K0.mpr ⟨h1,h2,λa ha b hb e=>h b hb<|e▸ha⟩
def Iv.step(hnb:∀u,∀o∈nb u,o<n)(hnd:∀u,(nb u).Nodup)(I:Iv n nb rim ok R K (W++[u])):Iv n nb rim ok (R++[u]) (K++(nb u).filter λo=>!decide (o∈K)) (W++((nb u).filter λo=>!decide (o∈K)).filter ok):=by
 have fm:∀o,o∈(nb u).filter (λo=>!decide (o∈K))↔o∈nb u/\o∉K:=λo=>by rw[X7,Bool.not_eq_true',VT]
 have ul:u∈W++[u]:=Y2 _ Y5;have uk:u∈K:=I.wk u ul;have ur:u∉R:=I.wr u ul;have wl:∀w∈W,w∈W++[u]:=λw hw=>X8 _ hw;have wn:=K0.mp I.wn;have ym:∀o∈((nb u).filter λo=>!decide (o∈K)).filter ok,(o∈nb u/\o∉K)/\ok o=Wd:=λo ho=>⟨(fm o).mp (X7.mp ho).1,(X7.mp ho).2⟩;have rl:∀r∈R++[u],r∈R\/r=u:=λr hr=>(Y9.mp hr).imp id Y0.mp;refine⟨n4 I.rn (M5.mpr ⟨(λz=>nomatch z),List.nodup_nil⟩) λa ha=>Y0.mp ha▸ur,n4 I.kn ((hnd u).filter _) λa ha=>((fm a).mp ha).2,n4 wn.1 (((hnd u).filter _).filter _) λa ha z=>(ym a ha).1.2 (I.wk a<|wl a z),λk hk=>?_,λr hr=>X8 _ ?_,λw hw=>?_,λw hw z=>?_,λw hw=>?_,λk hk ho=>?_,λr hr o ho=>?_,λx h1 h2=>X8 _<|I.rm x h1 h2,λk hk=>?_,λr hr=>?_⟩
 ·exact(Y9.mp hk).elim (I.kl k) λz=>hnb u k ((fm k).mp z).1
 ·exact(rl r hr).elim (I.rk r) λz=>z▸uk
 ·exact(Y9.mp hw).elim (λz=>X8 _<|I.wk w<|wl w z) λz=>Y2 _ (X7.mp z).1
 ·rcases Y9.mp hw with y|y
  ·exact(rl w z).elim (I.wr w<|wl w y) λe=>wn.2.2 w y u Y5 e
  ·exact(ym w y).1.2 ((rl w z).elim (I.rk w) λe=>e▸uk)
 ·exact(Y9.mp hw).elim (λz=>I.wo w<|wl w z) λz=>(ym w z).2
 ·rcases Y9.mp hk with z|z
  ·rcases I.op k z ho with y|y
   ·exact .inl<|X8 _ y
   ·exact(Y9.mp y).elim (λy=>.inr<|X8 _ y) λy=>.inl<|Y2 _ y
  ·exact .inr<|Y2 _<|X7.mpr ⟨z,ho⟩
 ·by_cases z:o∈K
  ·exact X8 _ z
  ·rcases rl r hr with y|y
   ·exact VR (I.nbk r y o ho) z
   ·exact Y2 _<|(fm o).mpr ⟨y▸ho,z⟩
 ·rcases Y9.mp hk with z|z
  ·exact(I.src k z).imp id λ⟨r,h1,h2⟩=>⟨r,X8 _ h1,h2⟩
  ·exact .inr ⟨u,Y2 _ Y5,((fm k).mp z).1⟩
 ·rcases rl r hr with z|z
  ·exact I.wet r z
  ·subst z;exact(I.src r uk).elim (λy=>.rim (I.kl r uk) y<|I.wo r ul) λ⟨q,h1,h2⟩=>.on (I.wet q h1) h2<|I.wo r ul
def Iv.done(I:Iv n nb rim ok R K []){y:Nat}:y∈R↔Wet n nb rim ok y:=by
 refine⟨I.wet y,λw=>?_⟩;induction w with
 |rim a b c=>exact(I.op _ (I.rm _ a b) c).elim id λz=>nomatch z
 |on _ b c ih=>exact(I.op _ (I.nbk _ ih _ b) c).elim id λz=>nomatch z
end
end Gr

namespace Pf
open Fl Pu Gr L2
def yQ{v:ZK}:∀(F:ZT) (d:hZ),F.Nodup->(∀o∈F,(o:Int)∉d.map (·.1))->d.length+F.length<=100000->bB (λ(s:hZ) (x:Int)=>if s.length<16777216 then Wb (put s x v) else Wc) (cl F) d=Wb (d++F.map λ(o:Nat)=>((o:Int),v))
 |[],d,_,_,_=>by rw[List.map_nil,V2];rfl
 |o ::F,d,h1,h2,h3=>by
  have h1':=M5.mp h1;have e:=yQ (v:=v) F (d++[((o:Int),v)]) h1'.2 (λp hp z=>by
   rw[M8]at z;rcases Y9.mp z with y|y
   ·exact h2 p (Y8 _ hp) y
   ·exact h1'.1<|Int.ofNat.inj (Y0.mp y)▸hp) (by rw[X4,P6];rw[X2]at h3;omega)
  rw[F8]at e;exact bj ((VP (by rw[X2]at h3;omega)).trans (congrArg Wb<|mq<|h2 o Y5)) e
def qc(m c x:Nat):Bool:=decide (x/c=0\/x/c=m-1) || decide (x%c=0\/x%c=c-1)
def CG{a m:Nat}(hm:0<m):decide ((a:Int)=0\/(a:Int)=(m:Int)-1)=decide (a=0\/a=m-1):=by rw[decide_eq_decide];omega
def div_c{x c:Nat}(hc:0<c)(Wl:c<=1000):mI (x:Int) (c:Int)=Wb ((x/c:Nat):Int)/\fmod (x:Int) (c:Int)=Wb ((x%c:Nat):Int) :=
 ⟨(jY ⟨U5.mpr hc,G7 (M4.mpr Wl) (by decide)⟩).trans rfl,(io<|U5.mpr hc).trans rfl⟩
def rO{m c x:Nat}(hm:0<m)(hc:0<c)(Wl:c<=1000):mX ((m:Int),(c:Int)) (x:Int)=Wb (qc m c x):=by unfold mX qc;exact bj (div_c hc Wl).1 (bj (div_c hc Wl).2 (by simp only[CG hm,CG hc]))
section
variable {ZZ:ZX}{c:Nat}{Wf:Int}
def vP(hc:0<c)(Wl:c<=1000)(hr:∀r∈ZZ,r.length=c){rd:nX}{R:ZT}(hR:rd.map (·.1)=cl R){x:Nat}(hx:x<ZZ.length*c)(h:Int):cT (ZZ,Wf,rd) (x:Int) h=Wb (!decide (x∈R)&&decide (eZ ZZ c x<=h)):=by
 unfold cT;have e:(find rd (x:Int)).isSome=decide (x∈R):=by rw[find_some,hR,decide_eq_decide];exact c8
 show (if (!(find rd (x:Int)).isSome)=Wd then _ else _)=_;rw[e];cases decide (x∈R) with
 |true=>rfl
 |false=>exact bj (dU hc Wl hr hx) rfl
def filt_cl{p:Int->Bool}(l:ZT):(cl l).filter p=cl (l.filter λx=>p (x:Int)):=by unfold cl;rw[List.filter_map];rfl
def n5{t:Int->Option Bool}{l:ZT}{q:ZH}(hl:l.length<=1000000)(ht:∀x∈l,t (x:Int)=Wb (q x)):bJ t (λy=>Wb y) (cl l)=Wb (cl<|l.filter q):=by rw[fV (p:=λy=>q y.toNat) (g:=λy=>y) (by rw[bz];exact hl) (λy hy=>bN (fW.mp hy) λx hx e=>by subst e;rw[W4];exact ht x hx) λa a a=>rfl,List.map_id',filt_cl];congr 2
def qO(hp:0<ZZ.length)(hc:0<c)(Wl:c<=1000)(hm:ZZ.length<=1000)(hr:∀r∈ZZ,r.length=c)(ZQ:ZZ.length*c<64){d:hZ}{K:ZT}(hK:d.map (·.1)=cl K)(kn:K.Nodup)(kl:∀k∈K,k<ZZ.length*c){u:Nat}(hu:u<ZZ.length*c):
  bT (ZZ,Wf,d) (u:Int)=Wb (cl ((gE ZZ.length c Wf u).filter λo=>!decide (o∈K)),d++((gE ZZ.length c Wf u).filter λo=>!decide (o∈K)).map λ(o:Nat)=>((o:Int),Wb (u:Int))):=by
 have nl:=lH ZZ.length c Wf u;have dl:d.length<=64:=by have e:d.length=K.length:=(Z5 (·.1)).symm.trans ((congrArg F6 hK).trans (bz K));rw[e];exact cj<|dM (dA _ kn kl) ZQ
 have fl:((gE ZZ.length c Wf u).filter λo=>!decide (o∈K)).length<=64:=aO (W8 _ _)<|cj<|dM nl ZQ;unfold bT;refine bj (dH hp hr)<|bj (iz hc Wl hm hu)<|bj (n5 (q:=λo=>!decide (o∈K)) (aO nl<|aO (cj ZQ) (by decide)) λx a=>?_)<|bj (yQ _ d ?_ (λo ho z=>?_)<|aO (Nat.add_le_add dl fl) (by decide)) rfl
 ·show Wb (!(find d (x:Int)).isSome)=_;rw[find_some,hK];congr 2;rw[decide_eq_decide];exact c8
 ·unfold gE;exact(L8.filter _).filter _
 ·have:=(X7.mp ho).2;rw[Bool.not_eq_true',VT]at this;rw[hK]at z;exact this<|c8.mp z
def vQ(hp:0<ZZ.length)(hc:0<c)(Wl:c<=1000)(hm:ZZ.length<=1000)(hr:∀r∈ZZ,r.length=c)(ZQ:ZZ.length*c<64):
  jA ZZ=Wb (((Z9<|ZZ.length*c).filter (qc ZZ.length c)).map λ(o:Nat)=>((o:Int),Wc)):=by
 have key:∀(l:ZT) (d:hZ),l.Nodup->(∀o∈l,(o:Int)∉d.map (·.1))->d.length+l.length<=100000->bB (λ(s:hZ) (x:Int)=>(mX ((ZZ.length:Int),(c:Int)) x).bind λb=>if b=Wd then if s.length<16777216 then Wb (put s x Wc) else Wc else Wb s) (cl l) d=Wb (d++(l.filter<|qc ZZ.length c).map λ(o:Nat)=>((o:Int),Wc)):=by
  intro l;induction l with
  |nil=>intro d _ _ _;rw[List.filter_nil,List.map_nil,V2];rfl
  |cons o l ih =>
   intro d h1 h2 h3;have h1':=M5.mp h1;rw[X2]at h3;cases q:qc ZZ.length c o with
   |false =>rw[K5 (by rw[q];exact Z3)];exact bj (bj ((rO hp hc Wl).trans (congrArg Wb q)) rfl)<|ih d h1'.2 (λp hp=>h2 p<|Y8 _ hp) (by omega)
   |true =>
    rw[K6 q,V7];have e:=ih (d++[((o:Int),Wc)]) h1'.2 (λp hp z=>by
     rw[M8]at z;rcases Y9.mp z with y|y
     ·exact h2 p (Y8 _ hp) y
     ·exact h1'.1<|Int.ofNat.inj (Y0.mp y)▸hp) (by rw[X4,P6];omega)
    rw[F8]at e;exact bj (bj ((rO hp hc Wl).trans (congrArg Wb q))<|(VP rfl).trans ((VP (show d.length<16777216 by omega)).trans (congrArg Wb<|mq<|h2 o Y5))) e
 unfold jA;exact bj (dH hp hr)<|bj (db hp Wl hm hr)<|key (Z9<|ZZ.length*c) [] L8 (λa a z=>nomatch z) (by rw[X1];exact aO (bK<|Nat.zero_add _)<|aO (cj ZQ) (by decide))
abbrev Ak(ZZ:ZX)(c:Nat)(h:Int)(x:Nat):Bool:=decide<|eZ ZZ c x<=h
def n6{α:Type}{d:List (Int×α)}{K F:ZT}{v:α}(h:d.map (·.1)=cl K):(d++F.map λ(o:Nat)=>((o:Int),v)).map (·.1)=cl (K++F):=by rw[M8,h,dW,V4];rfl
abbrev WetH(ZZ:ZX)(c:Nat)(Wf:Int)(h:Int)(y:Nat):Prop:=Wet (ZZ.length*c) (gE ZZ.length c Wf) (qc ZZ.length c) (Ak ZZ c h) y
def ok_up{h h':Int}(e:h<=h')(x:Nat)(o:Ak ZZ c h x=Wd):Ak ZZ c h' x=Wd:=VU<|Int.le_trans (of_decide_eq_true o) e
def wet_all(hc:0<c){h:Int}(hh:∀x,x<ZZ.length*c->eZ ZZ c x<=h):∀y,y<ZZ.length*c->WetH ZZ c Wf h y:=λy=>by
 induction y using Nat.strongRecOn with
 |ind y ih =>
  intro hy;by_cases h0:y=0
  ·subst h0;refine .rim hy ?_<|VU<|hh _ hy;unfold qc;rw[Nat.zero_div,VU (.inl rfl)];rfl
  ·obtain⟨z,h1,h2⟩:=nb_down (Wf:=Wf) hc hy<|Nat.pos_of_ne_zero h0;exact .on (ih z h1<|fD h1 hy) ((kX h2.2.1).mp (Nb.sy _ _ h2))<|VU<|hh _ hy
end
end Pf

namespace Pu
set_option tactic.hygienic true in
def CH:∀(l Wo:ZW) (x:Int),x∈l.foldl hJ Wo↔x∈Wo\/x∈l
 |[],Wo,x=>⟨.inl,λz=>z.elim id λz=>nomatch z⟩
 |a ::l,Wo,x=>by
  rw[List.foldl_cons,CH l (hJ Wo a) x];have:x∈hJ Wo a↔x∈Wo\/x=a:=by
   unfold hJ;split
   ·rename_i h;rw[J8]at h;obtain⟨y,hy,e⟩:=h;have e:y=a:=by simpa using e
    subst e;exact⟨.inl,λz=>z.elim id λz=>z▸hy⟩
   ·rw[Y9,Y0]
  rw[this,Y1,or_assoc]
set_option tactic.hygienic true in
def dd_nd:∀(l Wo:ZW),Wo.Nodup->(l.foldl hJ Wo).Nodup/\(l.foldl hJ Wo).length<=Wo.length+l.length
 |[],Wo,h=>⟨h,bW _⟩
 |a ::l,Wo,h=>by
  rw[List.foldl_cons,X2];have st:(hJ Wo a).Nodup/\(hJ Wo a).length<=Wo.length+1:=by
   unfold hJ;split
   ·exact⟨h,R6 _⟩
   ·rename_i q;refine⟨K0.mpr ⟨h,M5.mpr ⟨(λz=>nomatch z),List.nodup_nil⟩,λx hx y hy e=>q<|J8.mpr ⟨x,hx,by rw[e,Y0.mp hy];exact beq_self_eq_true a⟩⟩,?_⟩;rw[X4,P6];exact bW _
  have r:=dd_nd l (hJ Wo a) st.1;exact⟨r.1,by have:=st.2;have:=r.2;omega⟩
def once_eq{hs:ZW}(h1:hs.length<=60):∃as:List Int,((uO hs).bind λz=>sortI z)=Wb as/\as.Pairwise (·<·)/\(∀x,x∈as↔x∈hs)/\as.length<=60:=by
 have d:=dd_nd hs [] List.nodup_nil;have dl:(oA hs).length<=60:=aO d.2 (by rw[G9,Nat.zero_add];exact h1);refine⟨lX<|oA hs,Gr.bj (VP (show hs.length+1<4096 by omega))<|VP (show (oA hs).length<64 by omega),?_,λx=>?_,?_⟩
 ·have nd:(lX<|oA hs).Nodup:=((cO _).nodup_iff).mpr d.1;exact List.Pairwise.imp₂ (λa b h1 h2=>Int.lt_iff_le_and_ne.mpr ⟨h1,h2⟩) (eV _) nd
 ·rw[(cO _).mem_iff];exact(CH hs [] x).trans ⟨λz=>z.elim (λz=>nomatch z) id,.inr⟩
 ·rw[(cO _).length_eq];exact dl
end Pu

namespace Pf
open Fl Pu Gr
section
variable {ZZ:ZX}{c:Nat}
def flat_mp(hc:0<c)(hr:∀r∈ZZ,r.length=c):ZZ.flatten=(Z9<|ZZ.length*c).map (eZ ZZ c):=by
 apply N0;intro i;rw[Y3];by_cases hi:i<ZZ.length*c
 ·rw[jF hc hr hi,Q4 hi];rfl
 ·rw[T0 (by rw[bE hr];exact Q6 hi),T0 (by rw[X1];exact Q6 hi)];rfl
def Am(hp:0<ZZ.length)(hc:0<c)(Wl:c<=1000)(hm:ZZ.length<=1000)(hr:∀r∈ZZ,r.length=c)(ZQ:ZZ.length*c<64):i6 ZZ=((uO ZZ.flatten).bind λz=>sortI z):=by
 unfold i6 bD;refine bj (bj (db hp Wl hm hr) (bX (g:=λy=>eZ ZZ c y.toNat) (by rw[bz,X1];exact aO (cj ZQ) (by decide)) λy hy=>?_)) ?_
 ·obtain⟨x,hx,rfl⟩:=fW.mp hy;rw[dU hc Wl hr (R4.mp hx),W4]
 ·have e:(cl<|Z9<|ZZ.length*c).map (λy=>eZ ZZ c y.toNat)=ZZ.flatten:=by rw[flat_mp hc hr];unfold cl;rw[V4];exact U1 λx a=>by show eZ ZZ c ((x:Int)).toNat=_;rw[W4]
  rw[e]
def An{m c:Nat}{hs:ZW}(hm:m<=1000)(hc:c<=1000):i5 ((m:Int),(c:Int)) hs=Wb ((Z9 m).map λy=>(hs.drop<|y*c).take c):=by
 have c1:-(2^64)<((c:Nat):Int):=Int.lt_of_lt_of_le (by decide)<|Int.natCast_nonneg c;have c2:((c:Nat):Int)<2^64:=G7 (M4.mpr hc) (by decide);refine bj (jE<|aO hm (by decide))<|(bX (g:=λy=>(hs.drop<|y.toNat*c).take c) (by rw[jD];exact aO hm (by decide)) λy hy=>?_).trans ?_
 ·obtain⟨i,_,rfl⟩:=pX.mp hy;refine bj (bj (ja ⟨c1,c2⟩) rfl)<|bj (bj (ja ⟨c1,c2⟩) rfl) ?_;have e1:(i:Int)*(c:Int)=((i*c:Nat):Int):=(J1 i c).symm;have e2:((i:Int)+1)*(c:Int)=(((i+1)*c:Nat):Int):=(J1 (i+1) c).symm;rw[e1,e2,yK,Nat.succ_mul,Nat.add_sub_cancel_left,W4]
 ·unfold nats;rw[V4];rfl
end
end Pf

namespace Fl
open Pu
structure ShpW(ZZ:ZX)(c most:Nat):Prop where
 pos:0<ZZ.length
 most12:ZZ.length<=12
 cpos:0<c
 cmost:c<=12
 row:∀r∈ZZ,r.length=c
 area:ZZ.length*c<=most
 hts:∀r∈ZZ,∀x∈r,0<=x/\x<=1000000000000000000
end Fl

namespace Pf
open Fl Pu
def fB(ns:ZW){k:Nat}(hk:k<=1000)(ht:0<=top):∃v,dS ns (k:Int) top=Wb v/\0<=v/\v<=top:=by
 unfold dS;have b1:-(2^64)<(k:Int)+1/\(k:Int)+1<2^64:=by omega
 have b2:-(2^64)<(k:Int)/\(k:Int)<2^64:=by omega
 simp only[kU,bs,tM b1,tM b2,io (show 0<top+1 by omega)];refine⟨_,rfl,Int.emod_nonneg _ (by omega),?_⟩;exact Int.le_of_lt_add_one<|Int.emod_lt_of_pos _ (by omega)
def yR{i:Nat}(h:i<12):∃v,Pu.at_ ([0,1,0,2,0,1,0,3,0,1,0,2]:List Int) (i:Int)=Wb v/\0<=v/\v<=3:=by
 rw[c7]
 match i,h with
 |0,_=>exact⟨_,rfl,by decide,by decide⟩
 |1,_=>exact⟨_,rfl,by decide,by decide⟩
 |2,_=>exact⟨_,rfl,by decide,by decide⟩
 |3,_=>exact⟨_,rfl,by decide,by decide⟩
 |4,_=>exact⟨_,rfl,by decide,by decide⟩
 |5,_=>exact⟨_,rfl,by decide,by decide⟩
 |6,_=>exact⟨_,rfl,by decide,by decide⟩
 |7,_=>exact⟨_,rfl,by decide,by decide⟩
 |8,_=>exact⟨_,rfl,by decide,by decide⟩
 |9,_=>exact⟨_,rfl,by decide,by decide⟩
 |10,_=>exact⟨_,rfl,by decide,by decide⟩
 |11,_=>exact⟨_,rfl,by decide,by decide⟩
 |n+12,h=>exact VR h (by lia)
def tR(ns:ZW){k i j:Nat}(hk:k<=1000)(h0:0<=kind)(h5:kind<5)(hi:i<12)(hj:j<12):∃v,cU ns (k:Int) kind (i:Int) (j:Int)=Wb v/\0<=v/\v<=1000000000000000000:=by
 unfold cU;by_cases c3:kind=3
 ·rw[VP (by simpa using c3)];obtain⟨u,e1,u1,u2⟩:=yR hi;obtain⟨v,e2,v1,v2⟩:=yR hj;obtain⟨w,e3,w1,w2⟩:=fB ns hk (top:=3) (by decide);simp only[e1,e2,e3,bs];exact⟨_,rfl,by lia,by lia⟩
 ·rw[VQ (by simpa using c3)];by_cases c4:kind=4
  ·rw[VP (by simpa using c4)];obtain⟨w,e3,w1,w2⟩:=fB ns hk (top:=9) (by decide);simp only[e3,bs];have a1:0<=ab ((i:Int)-5)/\ab ((i:Int)-5)<=6:=by unfold ab;split<;>lia
   exact⟨_,rfl,by lia,by lia⟩
  ·rw[VQ (by simpa using c4)];have t:∃top,Pu.at_ ([3,11,1000000000000000000]:List Int) kind=Wb top/\0<=top/\top<=1000000000000000000:=by
    have:kind=0\/kind=1\/kind=2:=by lia
    rcases this with rfl|rfl|rfl
    ·exact⟨3,rfl,by decide,by decide⟩
    ·exact⟨11,rfl,by decide,by decide⟩
    ·exact⟨1000000000000000000,rfl,by decide,by decide⟩
   obtain⟨top,e,t1,t2⟩:=t;obtain⟨w,e3,w1,w2⟩:=fB ns hk t1;simp only[e,e3,bs];exact⟨_,rfl,w1,Int.le_trans w2 t2⟩
def xI(h:r<=max 1 (q/c))(hq:c<=q):r*c<=q:=by
 have h1:r*c<=max 1 (q/c)*c:=L9 c h;refine aO h1 ?_;by_cases z:1<=q/c
 ·rw[Nat.max_eq_right z];exact Nat.div_mul_le_self q c
 ·rw[Nat.max_eq_left (by lia),Nat.one_mul];exact hq
def vR(ns:ZW){most:Nat}(hm:12<=most)(hM:most<=144):∃ZZ c,jB ns (most:Int)=Wb ZZ/\ShpW ZZ c most:=by
 unfold jB;have ca:=kU ns 0;rw[show ((0:Nat):Int)=0 from rfl]at ca;rw[ca,bs];generalize cellAt ns 0=head;obtain⟨c,ec,c1,c2⟩:∃c:Nat,1+head%12=(c:Int)/\1<=c/\c<=12:=⟨(1+head%12).toNat,by lia,by lia,by lia⟩;rw[ec];have fc:0<(c:Int)/\(c:Int)<2^64:=by lia
 generalize (ln (cut ns (Wb 3)<|some 63):Int)=L;simp only[jY fc,bs];obtain⟨R1,eR1,r1⟩:∃R1:Nat,Pu.mx 1 (Pu.mn 12<|(L+(c:Int)-1)/(c:Int))=(R1:Int)/\1<=R1/\R1<=12:=by have h1:=mn_lel 12<|(L+(c:Int)-1)/(c:Int);have h2:=le_mxl 1<|Pu.mn 12<|(L+(c:Int)-1)/(c:Int);have h3:Pu.mx 1 (Pu.mn 12<|(L+(c:Int)-1)/(c:Int))<=12:=mx_le (by decide) h1;have h2':1<=Pu.mx 1 (Pu.mn 12<|(L+(c:Int)-1)/(c:Int)):=h2;exact⟨(Pu.mx 1<|Pu.mn 12<|(L+(c:Int)-1)/(c:Int)).toNat,by lia,by lia,by lia⟩
 rw[eR1];obtain⟨R2,eR2,r2⟩:∃R2:Nat,(if (decide<|((head/12)%8)=3)=Wd then Wb (12:Int) else Wb ((R1:Nat):Int))=Wb (R2:Int)/\1<=R2/\R2<=12:=by
  split
  ·exact⟨12,rfl,by decide,by decide⟩
  ·exact⟨R1,rfl,r1⟩
 rw[eR2,bs];obtain⟨R,eR,r3⟩:∃R:Nat,Pu.mn (R2:Int) (Pu.mx 1<|(most:Int)/(c:Int))=(R:Int)/\1<=R/\R<=12/\R<=max 1 (most/c):=by rw[<- Int.natCast_ediv];generalize most/c=q;unfold Pu.mn Pu.mx;split<;>split<;>first|exact⟨R2,rfl,by lia,by lia,by lia⟩|exact⟨q,rfl,by lia,by lia,by lia⟩|exact⟨1,rfl,by lia,by lia,by lia⟩
 rw[eR];have e1:qA (R:Int)=Wb (nats R):=jE (by lia);have e2:qA (c:Int)=Wb (nats c):=jE (by lia);rw[e1,bs,e2];have kb:0<=(head/96)%5/\(head/96)%5<5:=⟨Int.emod_nonneg _ (by decide),Int.emod_lt_of_pos _ (by decide)⟩;have H:∃ZZ,(Pu.bB (λ(s17:(List<|List<|Int)) (x16:Int)=>((mul x16 (c:Int)).bind λx18=>Wb<|3+x18).bind λat20=>((Wb<|nats c).bind λx22=>Pu.comp (λ(y21:Int)=>cU ns (at20+y21) ((head/96)%5) x16 y21) x22).bind λx25=>(Pu.app s17 x25).bind λfloor_here24=>Wb<|floor_here24) (nats R)<|[]).bind (λ(s17:(List<|List<|Int))=>Wb<|s17)=Wb ZZ/\ZZ.length=R/\∀r∈ZZ,r.length=c/\∀x∈r,0<=x/\x<=1000000000000000000:=by
  refine yJ (λi s=>s.length=i/\∀r∈s,r.length=c/\∀x∈r,0<=x/\x<=1000000000000000000) ⟨rfl,λa h=>nomatch h⟩ ?_ λs h=>⟨s,rfl,by rw[h.1,jD],h.2⟩;intro i x s hx hs;obtain⟨hi,rfl⟩:=vC hx;have mm:mul (i:Int) (c:Int)=Wb ((i:Int)*(c:Int)):=tM (by lia);have lt:i*c<=144:=aO (Nat.mul_le_mul (cj<|cW hi r3.2.1) c2) (by decide);have hh:∀y∈nats c,∃v,cU ns (3+(i:Int)*(c:Int)+y) ((head/96)%5) (i:Int) y=Wb v/\0<=v/\v<=1000000000000000000:=λy hy=>by
   obtain⟨j,hj,rfl⟩:=pX.mp hy;have e3:3+(i:Int)*(c:Int)+(j:Int)=((3+i*c+j:Nat):Int):=by rw[M9,M9,J1];rfl
   rw[e3];exact tR ns (by lia) kb.1 kb.2 (by lia) (by lia)
  have cg:Pu.comp (λ(y21:Int)=>cU ns (3+(i:Int)*(c:Int)+y21) ((head/96)%5) (i:Int) y21) (nats c)=Wb ((nats c).map λy=>(cU ns (3+(i:Int)*(c:Int)+y) ((head/96)%5) (i:Int) y).getD 0):=by refine bX (by rw[jD];lia) λy hy=>?_;obtain⟨v,e,_⟩:=hh y hy;rw[e];rfl
  have ap:Pu.app s ((nats c).map λy=>(cU ns (3+(i:Int)*(c:Int)+y) ((head/96)%5) (i:Int) y).getD 0)=Wb (s++[(nats c).map λy=>(cU ns (3+(i:Int)*(c:Int)+y) ((head/96)%5) (i:Int) y).getD 0]):=i8 (by lia);refine⟨_,by rw[mm,bs,bs,bs,cg,bs,ap];rfl,by rw[X4,hs.1];rfl,λr hr=>?_⟩;rcases Y9.mp hr with q|q
  ·exact hs.2 r q
  ·rw[Y0.mp q];refine⟨by rw[Z5,jD],λv hv=>?_⟩;obtain⟨y,hy,ev⟩:=U3.mp hv;obtain⟨v',e',b⟩:=hh y hy;rw[<- ev,e'];exact b
 refine oF H λZZ e l q=>⟨ZZ,c,e,by rw[l];exact r3.1,by rw[l];exact r3.2.1,c1,c2,λr hr=>(q r hr).1,?_,λr hr=>(q r hr).2⟩;rw[l];exact xI r3.2.2<|aO c2 hm
def stq(m c:Nat)(Wf:Int)(R C:Nat)(d a:Int):Bool :=
 ((decide (0<=(R:Int)+d)&&decide ((R:Int)+d<(m:Int)))&&(decide (0<=(C:Int)+a)&&decide ((C:Int)+a<(c:Int))))&&((!decide ((decide<|d=0)=(decide<|a=0))) || ((decide<|Wf=8)&&((!decide (d=0))&&(!decide (a=0)))))
def stq_eq{Wf d a:Int}(hd:d∈([-1,0,1]:List Int))(ha:a∈([-1,0,1]:List Int)):stq m c Wf R C d a=w4 m c Wf R C d a:=by
 have key:((!decide ((decide<|d=0)=(decide<|a=0))) || ((decide<|Wf=8)&&((!decide (d=0))&&(!decide (a=0)))))=((decide<|ab d+ab a=1) || ((decide<|Wf=8)&&(decide<|ab d+ab a=2))):=by
  have hd:d=-1\/d=0\/d=1:=by simpa using hd
  have ha:a=-1\/a=0\/a=1:=by simpa using ha
  cases q:decide (Wf=8)<;>rcases hd with rfl|rfl|rfl<;>rcases ha with rfl|rfl|rfl<;>rfl
 unfold stq w4;rw[key]
def qd{c x:Nat}{Wf:Int}(hp:0<ZZ.length)(hc0:0<c)(Wl:c<=1000)(hmm:ZZ.length<=1000)(h:∀r∈ZZ,r.length=c)(hx:x<ZZ.length*c):g8 ZZ Wf (x:Int)=Wb (cl<|gE ZZ.length c Wf x):=by
 rw[<- next_eq hc0 Wl hmm hx,rK hc0 Wl hmm hx];obtain⟨r0,e0⟩:∃r0,ZZ[0]?=Wb r0:=⟨ZZ[0],Z7 hp⟩;have l0:r0.length=c:=h r0<|X6 e0;have a0:Pu.at_ ZZ 0=Wb r0:=by rw[show (0:Int)=((0:Nat):Int) from rfl,c7];exact e0
 have d1:((x:Nat):Int)/((c:Nat):Int)=((x/c:Nat):Int):=(Int.natCast_ediv x c).symm;have d2:((x:Nat):Int)%((c:Nat):Int)=((x%c:Nat):Int):=(Int.natCast_emod x c).symm;have ln0:ln r0=(c:Int):=by unfold ln;rw[l0]
 have lnr:ln ZZ=(ZZ.length:Int):=rfl;unfold g8;simp only[a0,bs,ln0,lnr,jY (show 0<((c:Nat):Int)/\((c:Nat):Int)<2^64 by lia),io (show 0<((c:Nat):Int) by exact U5.mpr hc0),d1,d2,ja (show -(2^64)<((c:Nat):Int)/\((c:Nat):Int)<2^64 by lia)];have ex:(x:Int)=((x/c:Nat):Int)*(c:Int)+((x%c:Nat):Int):=by rw[<- J1,<- M9,D7,Nat.div_add_mod]
 have vv:∀d a:Int,(x:Int)+d*(c:Int)+a=(((x/c:Nat):Int)+d)*(c:Int)+(((x%c:Nat):Int)+a):=λd a=>by rw[Int.add_mul];generalize d*(c:Int)=w;generalize ((x/c:Nat):Int)*(c:Int)=v at ex ⊢;lia
 simp only[vv];generalize x/c=R;generalize x%c=C;generalize ZZ.length=m;have inner:∀(d:Int) (s:ZW),d∈([-1,0,1]:List Int)->s.length<=100->bB (λ(s7:ZW) (x6:Int)=>if (((decide (0<=(R:Int)+d)&&decide ((R:Int)+d<(m:Int)))&&(decide (0<=(C:Int)+x6)&&decide ((C:Int)+x6<(c:Int))))&&((!decide ((decide<|d=0)=(decide<|x6=0))) || ((decide<|Wf=8)&&((!decide (d=0))&&(!decide (x6=0))))))=Wd then (Pu.app s7<|((R:Int)+d)*(c:Int)+((C:Int)+x6)).bind λf=>Wb f else Wb s7) [-1,0,1] s =
   Wb (s++(([-1,0,1]:List Int).filter (w4 m c Wf R C d)).map λa=>((R:Int)+d)*(c:Int)+((C:Int)+a)):=λd s hd hs=>by
  rw[<- List.filter_congr (p:=stq m c Wf R C d) λa ha=>stq_eq hd ha];refine nH (S:=Unit) (B:=1000) (λs x hs=>?_) (by simp;exact cj<|dM hs (by decide));show (if stq m c Wf R C d x=Wd then _ else _)=_;cases q:stq m c Wf R C d x with
  |true=>rw[VP rfl,VP rfl,i8 (by exact cj<|dM hs (by decide))];rfl
  |false=>rw[VQ Z3,VQ Z3]
 have l3:∀d,((([-1,0,1]:List Int).filter (w4 m c Wf R C d)).map λa=>((R:Int)+d)*(c:Int)+((C:Int)+a)).length<=3:=λd=>by rw[Z5];exact W8 _ _
 refine iK (λi s=>s=(([-1,0,1]:List Int).take i).flatMap (λd=>(([-1,0,1]:List Int).filter (w4 m c Wf R C d)).map λa=>((R:Int)+d)*(c:Int)+((C:Int)+a))/\s.length<=3*i) ⟨rfl,by simp⟩ ?_ λs e=>by rw[e.1];rfl
 rintro i d s hd ⟨es,hs⟩;have hi:i<3:=(Z6.mp hd).1;refine(eD _ (by rw[inner d s (X6 hd) (by lia)];rfl) ?_ ?_)
 ·have:([-1,0,1]:List Int).take (i+1)=([-1,0,1]:List Int).take i++[d]:=by have e:=(Z6.mp hd).2;rw[<- e,P4]
  rw[this,List.flatMap_append,es];simp
 ·rw[X4];have:=l3 d;lia
def kY(h:ZZ.flatten.length<=1000000):j8 ZZ=Wb ((Z9 ZZ.flatten.length).map (hk ZZ.flatten)):=by
 have hq:=xE ZZ h;unfold tJ at hq;unfold j8;obtain⟨s,e,e2⟩:=L2.a8 hq;have e3:s=ZZ.flatten:=Z4 e2;rw[e,fE,e3,bX (f:=λ(y:ZA)=>Wb (y.2,y.1)) (g:=λy=>(y.2,y.1)) (by rw[vD];exact h) λx x=>rfl];congr 1;apply N0;intro i;rw[Y3,Y3];by_cases q:i<ZZ.flatten.length
 ·rw[Q4 q];have:(sS ZZ.flatten)[i]?=Wb ((i:Int),ZZ.flatten[i]):=by unfold sS;simp[q]
  rw[this];show Wb (ZZ.flatten[i],(i:Int))=Wb (hk ZZ.flatten i);unfold hk;rw[List.getD_eq_getElem?_getD,Z7 q];rfl
 ·rw[T0 (by rw[vD];lia),T0 (by rw[X1];lia)];rfl
end Pf

namespace Fl
open Pu
def skol{P:ZD}(H:∀x,x<n->∃e,P x e):∃E:Nat->Nat,∀x,x<n->P x (E x) :=
 ⟨λx=>if hx:x<n then (H x hx).choose else 0,λx hx=>by show P x (if h:x<n then (H x h).choose else 0);rw[dif_pos hx];exact(H x hx).choose_spec⟩
end Fl

namespace Pf
open Fl Pu
def ku(l:ZC):fU l l=Wb Wd:=by
 unfold fU;rw[VQ (by simp),gK];rintro⟨a,b⟩ hp;have e:a=b:=qb hp;subst e;cases a with
 |none=>rfl
 |some a=>unfold gh;simp
end Pf

namespace K06
open Fl Pu Gr Pf L2
def at_end{α:Type}(l:List α)(a:α):at_ (l++[a]) (-1)=Wb a:=by
 unfold at_ xW k9;rw[VQ (by lia),VP (by simp;lia)];have:((-1:Int)+((l++[a]).length:Int)).toNat=l.length:=by simp;lia
 simp only[this,fE];simp
def xJ{l m:ZT}(hl:l.Pairwise (·<·))(hm:m.Pairwise (·<·))(h:∀y,y∈l↔y∈m):l=m :=
 dD (le:=λa b=>a<b) (λa b h1 h2=>VR h1<|W5.mpr<|cj h2) ((List.perm_ext_iff_of_nodup (hl.imp eP)<|hm.imp eP).mpr h) hl hm
def sort_cl{l m:ZT}(p:l.Perm m)(hm:m.Pairwise (·<·))(h:l.length<64):sortI (cl l)=Wb (cl m):=by unfold sortI;rw[VP (by rw[bz];exact h)];congr 1;refine dD (le:=(·<=·)) (λa b h1 h2=>Int.le_antisymm h1 h2) ((cO _).trans (p.map _)) (eV _) ?_;unfold cl;rw[P8];exact hm.imp λh=>M4.mpr<|cj h
section
variable (nb:ZG)(Wm:ZH)(n:Nat)
def whole(y:Nat):List Nat:=(Z9 n).filter λz=>@decide (Rch (λa b=>b∈nb a) (λa=>Wm a=Wd) y z)<|Classical.propDecidable _
def more(s:Zg)(y:Nat):List (List Nat)×List Nat:=if Wm y=Wd/\y∉s.2 then (s.1++[whole nb Wm n y],s.2++whole nb Wm n y) else s
def upto(i:Nat):List (List Nat)×List Nat:=(Z9 i).foldl (more nb Wm n) ([],[])
end
section
variable {nb:ZG}{Wm:ZH}{n:Nat}(hnb:∀i o,o∈nb i->o<n)(sy:∀a b,a<n->b∈nb a->a∈nb b)
theorem vS(y:Nat):(whole nb Wm n y).Pairwise (·<·):=J4.filter _
theorem qf(y:Nat):(whole nb Wm n y).Nodup:=(vS y).imp eP
include hnb
theorem qg{y z:Nat}(hy:y<n)(h:Rch (λa b=>b∈nb a) (λa=>Wm a=Wd) y z):z<n:=by
 cases h with
 |here=>exact hy
 |on _ h _=>exact hnb _ _ h
theorem iL{y z:Nat}(hy:y<n):z∈whole nb Wm n y↔Rch (λa b=>b∈nb a) (λa=>Wm a=Wd) y z:=by
 unfold whole;rw[X7,R4]
 constructor
 ·exact λh=>@of_decide_eq_true _ (Classical.propDecidable _) h.2
 ·exact λh=>⟨qg hnb hy h,by simpa using h⟩
omit hnb
structure Shut(nb:ZG)(Wm:ZH)(n:Nat)(D:ZT):Prop where
 nd:D.Nodup
 lt:∀k∈D,k<n
 lv:∀k∈D,Wm k=Wd
 clo:∀k∈D,∀o∈nb k,Wm o=Wd->o∈D
include hnb sy
theorem Shut.out{D:ZT}(s:Shut nb Wm n D){y z:Nat}(hy:y<n)(hl:Wm y=Wd)(h:Rch (λa b=>b∈nb a) (λa=>Wm a=Wd) y z)(hz:z∈D):y∈D:=by
 induction h with
 |here=>exact hz
 |on h1 h2 _ ih=>exact ih<|s.clo _ hz _ (sy _ _ (qg hnb hy h1) h2)<|h1.ok_ hl
theorem Shut.add{D E:ZT}(s:Shut nb Wm n D){y:Nat}(hy:y<n)(hl:Wm y=Wd)(hn:y∉D)(p:E.Perm (whole nb Wm n y)):Shut nb Wm n (D++E):=by
 have m:∀z,z∈E↔Rch (λa b=>b∈nb a) (λa=>Wm a=Wd) y z:=λz=>p.mem_iff.trans<|iL hnb hy;refine⟨K0.mpr ⟨s.nd,(p.nodup_iff).mpr (qf y),λa ha b hb e=>?_⟩,λk hk=>?_,λk hk=>?_,λk hk o ho hlo=>?_⟩
 ·subst e;exact hn<|s.out hnb sy hy hl ((m a).mp hb) ha
 ·rcases Y9.mp hk with z|z
  ·exact s.lt k z
  ·exact qg hnb hy<|(m k).mp z
 ·rcases Y9.mp hk with z|z
  ·exact s.lv k z
  ·exact((m k).mp z).ok_ hl
 ·rcases Y9.mp hk with z|z
  ·exact X8 _<|s.clo k z o ho hlo
  ·exact Y2 _<|(m o).mpr (.on ((m k).mp z) ho hlo)
theorem Ao{s:Zg}{y:Nat}(hy:y<n)(x:Shut nb Wm n s.2)(l:∀r∈s.1,r.length<=n):Shut nb Wm n (more nb Wm n s y).2/\∀r∈(more nb Wm n s y).1,r.length<=n:=by
 unfold more;by_cases c:Wm y=Wd/\y∉s.2
 ·rw[VP c];refine⟨x.add hnb sy hy c.1 c.2 .rfl,λr hr=>?_⟩;rcases Y9.mp hr with z|z
  ·exact l r z
  ·rw[Y0.mp z];exact dA n (qf y) λk hk=>qg hnb hy<|(iL hnb hy).mp hk
 ·rw[VQ c];exact⟨x,l⟩
end
def Ap{nb:ZG}{Wm:ZH}{n i:Nat}:upto nb Wm n (i+1)=more nb Wm n (upto nb Wm n i) i:=by unfold upto;rw[List.range_succ,List.foldl_append];rfl
abbrev enc(D:ZT):List (Int×Bool):=D.map λ(k:Nat)=>((k:Int),Wd)
def vT(D:ZT):(enc D).map (·.1)=cl D:=by unfold enc;rw[V4];rfl
def CJ{D:ZT}{y:Nat}:(!(find (enc D) (y:Int)).isSome)=decide (y∉D):=by
 rw[find_some,vT];by_cases h:y∈D
 ·rw[VU (c8.mpr h),VW (not_not_intro h)];rfl
 ·rw[VW λz=>h<|c8.mp z,VU h];rfl
def marks:∀(l D:ZT),(D++l).Nodup->D.length+l.length<=1000000->bB (λ(s13:(List<|Int×Bool)) (x12:Int)=>if (s13).length<16777216 then (λseen16=>Wb<|seen16) (Pu.put s13 x12<|true) else Wc) (cl l) (enc D)=Wb (enc<|D++l)
 |[],D,_,_=>by rw[V2];rfl
 |x ::l,D,nd,hl=>by
  have hx:x∉D:=λz=>(K0.mp nd).2.2 x z x Y5 rfl;have e:D++x ::l=(D++[x])++l:=by rw[F8,List.singleton_append]
  rw[X2]at hl;show bB _ ((x:Int) ::cl l) _=_;rw[bB,VP (by rw[Z5];omega),mq (by rw[vT];exact λz=>hx<|c8.mp z),bs,e];have:=marks l (D++[x]) (e▸nd) (by rw[X4,P6];omega);rw[<- this];congr 1;unfold enc;rw[M8];rfl
section
variable {ZZ:ZX}{c:Nat}{Wf h:Int}
def yS{nb:ZG}{Wm:ZH}{n:Nat}(hn:n<=1000)(hnb:∀i o,o∈nb i->o<n)(sy:∀a b,a<n->b∈nb a->a∈nb b){cov:ZW}(hst:∀y,y<n->Wm y=Wd->((Pu.at_ cov<|-1).bind λx7=>bY ZZ Wf (y:Int) x7)=Wb (cl<|whole nb Wm n y)):
  ∀(ys:ZT) (s:Zg),(∀y∈ys,y<n/\Wm y=Wd)->Shut nb Wm n s.2->(∀r∈s.1,r.length<=n)->s.1.length+ys.length<=1000 ->
   bB (λ(s6:(List<|List<|Int)×(List<|Int×Bool)) (x5:Int)=>if (!(find s6.2 x5).isSome)=Wd then ((Pu.at_ cov<|-1).bind λx7=>bY ZZ Wf x5 x7).bind λstretch9=>(Pu.app s6.1 stretch9).bind λfound11=>(bB (λ(s13:(List<|Int×Bool)) (x12:Int)=>if (s13).length<16777216 then (λseen16=>Wb<|seen16) (Pu.put s13 x12<|true) else Wc) stretch9 s6.2).bind λ(s13:(List<|Int×Bool))=>Wb ((found11,s13)) else Wb ((s6.1,s6.2))) (cl ys) (s.1.map cl,enc s.2)
   =Wb ((ys.foldl (more nb Wm n) s).1.map cl,enc (ys.foldl (more nb Wm n) s).2)
 |[],s,_,_,_,_=>rfl
 |y ::ys,s,hy,x,l,hl=>by
  obtain⟨hyn,hyl⟩:=hy y Y5;obtain⟨x',l'⟩:=Ao hnb sy hyn x l;have hl':(more nb Wm n s y).1.length+ys.length<=1000:=by
   unfold more;rw[X2]at hl;split
   ·rw[X4,P6];lia
   ·lia
  have ih:=yS hn hnb sy hst ys (more nb Wm n s y) (λz hz=>hy z<|Y8 _ hz) x' l' hl';show bB _ ((y:Int) ::cl ys) _=_;rw[bB,List.foldl_cons,<- ih];simp only;rw[CJ];have hll:s.1.length<=1000:=by lia
  by_cases c:y∉s.2
  ·have e:more nb Wm n s y=(s.1++[whole nb Wm n y],s.2++whole nb Wm n y):=by unfold more;rw[VP ⟨hyl,c⟩]
   have hs2:s.2.length<=n:=dA n x.nd x.lt;have hw:(whole nb Wm n y).length<=n:=dA n (qf y) λk hk=>qg hnb hyn<|(iL hnb hyn).mp hk;rw[VP (VU c),hst y hyn hyl,bs,i8 (by rw[Z5];exact aO hll (by decide)),bs,marks _ _ (by rw[e]at x';exact x'.nd) (aO (Nat.add_le_add (aO hs2 hn)<|aO hw hn) (by decide)),bs,bs,e,M8];rfl
  ·have e:more nb Wm n s y=s:=by unfold more;rw[VQ λz=>c z.2]
   rw[VQ (by rw[VW c];exact Z3),bs,e]
def CK(hc:0<c)(hr:∀r∈ZZ,r.length=c){os cs:ZT}{last:Nat}(o:Ord ZZ.flatten os)(e:os.filter (λy=>decide<|eZ ZZ c y<=h)=cs++[last]):
  last<ZZ.length*c/\∀y,y<ZZ.length*c->Pf.upTo ZZ c last y=decide (eZ ZZ c y<=h):=by
 have fl:ZZ.flatten.length=ZZ.length*c:=bE hr;have ml:last∈os.filter (λy=>decide<|eZ ZZ c y<=h):=by rw[e];exact Y2 _<|Y0.mpr rfl
 obtain⟨m1,m2⟩:=X7.mp ml;have hl:last<ZZ.length*c:=fl▸o.mem.mp m1;have hv:=of_decide_eq_true m2;refine⟨hl,λy hy=>?_⟩;unfold Pf.upTo;by_cases hyv:eZ ZZ c y<=h
 ·rw[VU hyv];have my:y∈os.filter (λy=>decide<|eZ ZZ c y<=h):=X7.mpr ⟨o.mem.mpr (by rw[fl];exact hy),VU hyv⟩;have pw:=o.up.filter λy=>decide<|eZ ZZ c y<=h;rw[e]at my pw;rw[<- jZ hc hr hl,<- jZ hc hr hy];rcases Y9.mp my with z|z
  ·have:=(List.pairwise_append.mp pw).2.2 y z last (Y0.mpr rfl);rw[xF this];rfl
  ·rw[Y0.mp z,Cv];rfl
 ·rw[VW hyv];have:dZ (Pf.key ZZ c last) (Pf.key ZZ c y)=Wd:=by unfold dZ Pf.key;rw[VS];exact .inl<|G7 hv<|Int.not_le.mp hyv
  rw[this];rfl
def vU{m:Nat}:∀i o,o∈gE m c Wf i->o<m*c:=λx x h=>(cG.mp h).1
def nb_sy{m:Nat}:∀a b,a<m*c->b∈gE m c Wf a->a∈gE m c Wf b:=λx x ha h=>cG.mpr ⟨ha,by rw[ux];exact(cG.mp h).2⟩
def tS(hp:0<ZZ.length)(hc:0<c)(Wl:c<=100)(hm:ZZ.length<=100)(hr:∀r∈ZZ,r.length=c)(ZQ:ZZ.length*c<64):
  dR ZZ Wf h=Wb ((upto (gE ZZ.length c Wf) (λy=>decide<|eZ ZZ c y<=h) (ZZ.length*c)<|ZZ.length*c).1.map cl):=by
 have hc1:c<=1000:=aO Wl (by decide);have hm1:ZZ.length<=1000:=aO hm (by decide);have fl:ZZ.flatten.length=ZZ.length*c:=bE hr;obtain⟨os,eo,o⟩:=nI hp hc hc1 hm1 hr ZQ;have ol:(cl os).length<=1000000:=by rw[bz,o.len,fl];exact aO (cj ZQ) (by decide)
 have ec:dG ZZ h=Wb (cl (os.filter λy=>decide<|eZ ZZ c y<=h)):=by
  unfold dG;rw[eo,bs,fV (p:=λy=>decide<|eZ ZZ c y.toNat<=h) (g:=λy=>y) ol (λy hy=>?_) λa a a=>rfl]
  ·unfold cl;rw[List.map_id',List.filter_map];congr 2
  ·obtain⟨k,hk,rfl⟩:=fW.mp hy;rw[dU hc hc1 hr (fl▸o.mem.mp hk),bs,W4]
 have es:sortI (cl (os.filter λy=>decide<|eZ ZZ c y<=h))=Wb (cl ((Z9<|ZZ.length*c).filter λy=>decide<|eZ ZZ c y<=h)):=by have p:=o.pm.filter λy=>decide<|eZ ZZ c y<=h;rw[fl]at p;refine sort_cl p (J4.filter _)<|dM (W8 _ _) ?_;rw[o.len,fl];exact ZQ
 have hst:∀y,y<ZZ.length*c->decide (eZ ZZ c y<=h)=Wd->((Pu.at_ (cl (os.filter λy=>decide<|eZ ZZ c y<=h))<|-1).bind λx7=>bY ZZ Wf (y:Int) x7)=Wb (cl<|whole (gE ZZ.length c Wf) (λy=>decide<|eZ ZZ c y<=h) (ZZ.length*c) y):=λy hy hv=>by
  have my:y∈os.filter (λy=>decide<|eZ ZZ c y<=h):=X7.mpr ⟨o.mem.mpr (by rw[fl];exact hy),hv⟩;rcases List.eq_nil_or_concat (os.filter λy=>decide<|eZ ZZ c y<=h) with z|⟨cs,last,z⟩
  ·rw[z]at my;cases my
  ·rw[List.concat_eq_append]at z;obtain⟨hl,hu⟩:=CK hc hr o z;rw[z,dW,show cl [last]=[(last:Int)] from rfl,at_end,bs];obtain⟨ks,g1,g2,_,g4⟩:=mZ (Wf:=Wf) (x:=y) (last:=last) hc Wl hm hr ZQ hy hl;rw[g1];congr 2;refine xJ g2 (vS y) λw=>?_;rw[g4 (by rw[hu y hy];exact hv) w,iL vU hy];exact⟨λq=>q.mono λa b h1 h2=>⟨h1,by rw[<- hu b (vU _ _ h1)];exact h2⟩,λq=>q.mono λa b h1 h2=>⟨h1,by rw[hu b (vU _ _ h1)];exact h2⟩⟩
 unfold dR;rw[ec,bs,es,bs];have key:=yS (ZZ:=ZZ) (Wf:=Wf) (aO (cj ZQ) (by decide)) vU nb_sy hst ((Z9<|ZZ.length*c).filter λy=>decide<|eZ ZZ c y<=h) ([],[])
  (λy hy=>⟨R4.mp (X7.mp hy).1,(X7.mp hy).2⟩) ⟨.nil,(λa h=>nomatch h),(λa h=>nomatch h),(λa h=>nomatch h)⟩ (λa h=>nomatch h)
  (by rw[G9,Nat.zero_add];exact aO (W8 _ _) (by rw[X1];exact aO (cj ZQ) (by decide)))
 have e2:((Z9<|ZZ.length*c).filter λy=>decide<|eZ ZZ c y<=h).foldl (more (gE ZZ.length c Wf) (λy=>decide<|eZ ZZ c y<=h)<|ZZ.length*c) ([],[])=upto (gE ZZ.length c Wf) (λy=>decide<|eZ ZZ c y<=h) (ZZ.length*c) (ZZ.length*c):=by
  rw[List.foldl_filter];unfold upto;refine congrArg (λf=>List.foldl f ([],[])<|Z9<|ZZ.length*c) ?_;funext s y;by_cases q:decide (eZ ZZ c y<=h)=Wd
  ·rw[VP q]
  ·rw[VQ q];unfold more;rw[VQ λz=>q z.1]
 rw[e2]at key;rw[show bB _ (cl ((Z9<|ZZ.length*c).filter λy=>decide<|eZ ZZ c y<=h)) ([],[])=_ from key,bs]
end
end K06

namespace Gr
open Fl Pu PySem
def tT{p q:Prop}[Decidable p][Decidable q]{α:Type _}{a b:α}(h:p↔q):(if p then a else b)=if q then a else b:=by
 by_cases e:p
 ·rw[VP e,VP (h.mp e)]
 ·rw[VQ e,VQ λz=>e<|h.mpr z]
end Gr

namespace Pf
open Fl Pu Gr L2
section
variable {os:ZT}
def yT(h:hs.length<=1000000)(o:Ord hs os):lY ((Z9 hs.length).map (hk hs))=os.map (hk hs):=by
 obtain⟨os',e,o'⟩:=Cw h;have pm:=jS<|(Z9 hs.length).map (hk hs);rw[bX (g:=fun y:Int×Int=>y.2) (by rw[pm.length_eq];simpa using h) λx x=>rfl]at e;rw[<- o'.uniq o];have e:=Z4 e;have e2:(lY<|(Z9 hs.length).map (hk hs)).map (λq=>hk hs q.2.toNat)=os'.map (hk hs):=by rw[show (fun q:Int×Int=>hk hs q.2.toNat)=(fun v:Int=>hk hs v.toNat) ∘ (λy=>y.2) from rfl,<- V4,e];unfold cl;rw[V4];rfl
 rw[<- e2]
 conv=>lhs;rw[<- List.map_id (lY<|(Z9 hs.length).map (hk hs))]
 exact U1 λq hq=>bN (U3.mp<|pm.mem_iff.mp hq) λi x e=>by rw[<- e];rfl
end
abbrev trL(par:Zx)(l:ZT):List (Int×Option Int×Option Int):=l.map λ(x:Nat)=>((x:Int),(par x).map λp=>(p.1:Int),(par x).map λp=>(p.2:Int))
section
variable {par:Zx}{Wg:c6}
def ends_eq(he:i9 Wg par)(hl:l.length<=1000000):Pu.comp (λ(y1:Int)=>Wb<|((y1),((find Wg y1).getD (Wc,Wc)).1,((find Wg y1).getD (Wc,Wc)).2)) (cl l)=Wb (trL par l):=by rw[bX (g:=λy=>(y,((find Wg y).getD (Wc,Wc)).1,((find Wg y).getD (Wc,Wc)).2)) (by rw[bz];exact hl) λa a=>rfl];congr 1;unfold cl trL;rw[V4];refine U1 λx a=>?_;simp only[Function.comp];rw[he x];cases par x<;>rfl
end
def tlB(x e:Int)(s30:(List<|Option<|Int)×(List<|Int×((Option<|Int)×(Option<|Int))))(x29:Zn):Option ((List<|Option<|Int)×(List<|Int×((Option<|Int)×(Option<|Int)))):=if (!decide (x29=Wb e))=Wd then (x29).bind λx37=>if (s30.2).length<16777216 then (λends33=>(Pu.comp (λ(y34:Zn)=>Pu.at_ ([y34,Wb (e)])<|ofb<|decide<|y34=x29) s30.1).bind λlabels36=>Wb<|(labels36,ends33)) (Pu.put s30.2 x37<|(Wb<|x,Wb (e))) else Wc else Wb ((s30.1,s30.2))
def CN{x e:Nat}:tlB (x:Int) (e:Int) (l1,e1) (Wb (e:Int))=Wb (l1,e1):=VQ (by simp)
def Aq{x e r:Nat}(q':¬ (Wb (r:Int):Option Int)=Wb (e:Int))(hl:l1.length<=1000000)(hel:e1.length<16777216):tlB (x:Int) (e:Int) (l1,e1) (Wb (r:Int))=Wb (l1.map λv=>if v=Wb (r:Int) then Wb (e:Int) else v,Pu.put e1 (r:Int) (Wb (x:Int),Wb (e:Int))) :=
 (VP (by simpa using q')).trans ((VP hel).trans (bj (bX hl λv a=>by
  by_cases z:v=Wb (r:Int)
  ·rw[VP z,VU z];rfl
  ·rw[VQ z,VW z];rfl) rfl))
def tsB(ZZ:ZX)(Wf:Int)(keys:ZF)(s9:(List<|Option<|Int)×(List<|Int×((Option<|Int)×(Option<|Int)))×(List<|Int))(x8:Zp):Option ((List<|Option<|Int)×(List<|Int×((Option<|Int)×(Option<|Int)))×(List<|Int)):=((g8 ZZ Wf x8.2).bind λx12=>bJ (λ(y10:Int)=>(Pu.at_ s9.1 y10).bind λx11=>Wb<|x11.isSome) (λ(y10:Int)=>Pu.at_ s9.1 y10) x12).bind λnear_here14=>if (decide<|near_here14=[])=Wd then (Pu.app s9.2.2 x8.2).bind λstarts16=>(k9 (s9.1).length x8.2).bind λj18=>(λlabels19=>Wb<|(labels19,s9.2.1,starts16)) ((s9.1).set j18 (Wb<|x8.2)) else (((Pu.comp (λ(y20:Zn)=>(y20).bind λx21=>Pu.at_ keys x21) near_here14).bind λx22=>A7 x22).bind λx23=>Wb<|x23.2).bind λeldest25=>(k9 (s9.1).length x8.2).bind λj27=>(λlabels28=>(bB (tlB x8.2 eldest25) near_here14 (labels28,s9.2.1)).bind λ(s30:(List<|Option<|Int)×(List<|Int×((Option<|Int)×(Option<|Int))))=>Wb<|(s30.1,s30.2,s9.2.2)) ((s9.1).set j27 (Wb<|eldest25))
section
variable {ZZ:ZX}{c n k:Nat}{os:ZT}{Wf:Int}{ls:ZC}{ends:c6}{Wi:Zs}{par:Zx}
structure LabOk(A:ZD)(n:Nat)(ρ:ZE)(k:Nat)(ls:ZC):Prop where
 lies:tQ A n ρ k ls
 no:∀x,x<n->k<=ρ x->ls[x]?=Wb Wc
def cs_no:(Wc:ZK)∉cs l:=by unfold cs;simp
def LabOk.step{A:ZD}{ρ:ZE}(l:LabOk A n ρ k ls){x e:Nat}(hr:ρ x=k)(z:tQ A n ρ (k+1) ((ls.set x<|some (e:Int)).map λv=>if v∈cs met/\v≠Wb (e:Int) then Wb (e:Int) else v)):LabOk A n ρ (k+1) ((ls.set x<|some (e:Int)).map λv=>if v∈cs met/\v≠Wb (e:Int) then Wb (e:Int) else v) :=
 ⟨z,λy hy h=>by rw[Y3,K4,VQ (show ¬ x=y from λz=>Nat.not_succ_le_self k (by rw[<- z,hr]at h;exact h)),l.no y hy (Nat.le_of_succ_le h),Option.map_some,VQ λz=>cs_no z.1]⟩
def lab_met(hp:0<ZZ.length)(hc:0<c)(Wl:c<=900)(hm:ZZ.length<=900)(h:∀r∈ZZ,r.length=c)(hn:ZZ.length*c<=144)(inj:∀x y,x<ZZ.length*c->y<ZZ.length*c->rk os x=rk os y->x=y)(hl:LabOk (Nb ZZ.length c Wf) (ZZ.length*c) (rk os) k ls)(hx:x<ZZ.length*c):
  ∃met:List Nat,((g8 ZZ Wf (x:Int)).bind λx12=>bJ (λ(y10:Int)=>(Pu.at_ ls y10).bind λx11=>Wb<|x11.isSome) (λ(y10:Int)=>Pu.at_ ls y10) x12)=Wb (cs met)/\met.length<=144/\∀r,r∈met↔∃o,Nb ZZ.length c Wf x o/\rk os o<k/\Fst (Nb ZZ.length c Wf) (ZZ.length*c) (rk os) k o r:=by
 refine k0 (skol (n:=ZZ.length*c) (P:=λy r=>rk os y<k->ls[y]?=Wb (Wb (r:Int))/\Fst (Nb ZZ.length c Wf) (ZZ.length*c) (rk os) k y r) λy hy=>?_) λroot hroot=>?_
 ·by_cases q:rk os y<k
  ·exact bN (hl.lies.2 y hy q) λr e f=>⟨r,λa=>⟨e,f⟩⟩
  ·exact⟨0,λz=>VR z q⟩
 have nbl:=lH ZZ.length c Wf x;have at_:∀y∈cl (gE ZZ.length c Wf x),∃o:Nat,y=(o:Int)/\o<ZZ.length*c/\Pu.at_ ls y=Wb (if rk os o<k then Wb (root o:Int) else Wc):=λy hy=>bN (fW.mp hy) λo ho e=>by
  have ho':=(cG.mp ho).1;refine⟨o,e,ho',?_⟩;rw[e,c7];by_cases q:rk os o<k
  ·rw[VP q];exact(hroot o ho' q).1
  ·rw[VQ q];exact hl.no o ho'<|W5.mp q
 refine⟨((gE ZZ.length c Wf x).filter λo=>decide<|rk os o<k).map root,bj (qd hp hc (aO Wl (by decide)) (aO hm (by decide)) h hx) ?_,?_,λr=>?_⟩
 ·rw[fV (p:=λy=>decide<|rk os y.toNat<k) (g:=λy=>Wb ((root y.toNat:Nat):Int)) (by rw[bz];exact aO nbl<|aO hn (by decide)) (λy hy=>oF (at_ y hy) λo e a q=>bj q ?_) λy hy hq=>oF (at_ y hy) λo e a q=>?_]
  ·unfold cl cs;rw[List.filter_map,V4,V4];rfl
  ·rw[e,W4];by_cases z:rk os o<k
   ·rw[VP z,VU z];rfl
   ·rw[VQ z,VW z];rfl
  ·rw[e,W4]at hq;rw[q,VP (of_decide_eq_true hq),e];rfl
 ·rw[Z5];exact aO (W8 _ _)<|aO nbl hn
 ·rw[U3]
  constructor
  ·exact λz=>bN z λo h1 h2=>have q:=X7.mp h1;have lt:=of_decide_eq_true q.2;⟨o,(kX hx).mpr q.1,lt,h2▸(hroot o (cG.mp q.1).1 lt).2⟩
  ·exact λz=>oF z λo h1 h2 h3=>⟨o,X7.mpr ⟨(kX hx).mp h1,VU h2⟩,(hroot o h1.2.1 h2).2.same inj h3⟩
def CO(hp:0<ZZ.length)(hc:0<c)(Wl:c<=900)(hm:ZZ.length<=900)(h:∀r∈ZZ,r.length=c)(hn:ZZ.length*c<=144)(o:Ord ZZ.flatten os)(u:UF (Nb ZZ.length c Wf) (ZZ.length*c) (rk os) k Wi par)(he:i9 ends par)(hel:ends.length<=k*144)(hl:LabOk (Nb ZZ.length c Wf) (ZZ.length*c) (rk os) k ls)(hst:st.length<=k)(hx:x<ZZ.length*c)(hr:rk os x=k):
  ∃(ls':ZC) (Wt:c6) (home':Zs) (par':Zx),tsB ZZ Wf ((Z9 ZZ.flatten.length).map (hk ZZ.flatten)) (ls,ends,cl st) (hk ZZ.flatten x)=Wb (ls',Wt,cl (if home' x=Wb x then st++[x] else st))/\UF (Nb ZZ.length c Wf) (ZZ.length*c) (rk os) (k+1) home' par'/\i9 Wt par'/\Wt.length<=(k+1)*144/\LabOk (Nb ZZ.length c Wf) (ZZ.length*c) (rk os) (k+1) ls'/\∀y,y≠x->home' y=Wi y:=by
 have ZR:ZZ.flatten.length=ZZ.length*c:=bE h;have inj:∀x y,x<ZZ.length*c->y<ZZ.length*c->rk os x=rk os y->x=y:=λx y hx hy=>o.inj x y (ZR.symm▸hx)<|ZR.symm▸hy;have k144:k<144:=cW (hr▸ZR▸o.rk_lt (ZR.symm▸hx)) hn;have ix:k9 ls.length (x:Int)=Wb x:=mw (by rw[hl.lies.1];exact hx);have up:k*144<=(k+1)*144:=L9 _<|R6 k;obtain⟨met,e1,ml,hmet⟩:=lab_met hp hc Wl hm h hn inj hl hx;have LS:∀{e:Nat} {home' par'},UF (Nb ZZ.length c Wf) (ZZ.length*c) (rk os) (k+1) home' par'->home' x=Wb e->LabOk (Nb ZZ.length c Wf) (ZZ.length*c) (rk os) (k+1) ((ls.set x<|some (e:Int)).map λv=>if v∈cs met/\v≠Wb (e:Int) then Wb (e:Int) else v):=λ{e _ _} u' he=>hl.step hr<|Aj Nb.sy inj hx hr (λb b z=>z.2.1) hmet (hr▸u'.hm x e he) hl.lies;by_cases ne:met=[]
 ·have u':UF (Nb ZZ.length c Wf) (ZZ.length*c) (rk os) (k+1) (λy=>if y=x then Wb x else Wi y) par:=u.alone Nb.sy inj hx hr (λo' ho lo=>bN (hl.lies.2 o' lo.1 lo.2) λr b f=>by have:=(hmet r).mpr ⟨o',ho,lo.2,f⟩;rw[ne]at this;cases this) (VP rfl) λy hy=>VQ hy
  have lb:=LS u'<|VP rfl;have el:(ls.set x<|some (x:Int)).map (λv=>if v∈cs met/\v≠Wb (x:Int) then Wb (x:Int) else v)=ls.set x (Wb (x:Int)):=by
   conv=>rhs;rw[<- List.map_id (ls.set x<|some (x:Int))]
   exact U1 λv b=>VQ λz=>by rw[ne]at z;exact nomatch z.1
  refine⟨ls.set x<|some (x:Int),ends,_,par,bj e1<|(VP (by rw[ne];rfl)).trans (bj (i8 (by rw[bz];exact aO hst<|aO (cj k144) (by decide)))<|bj ix ?_),u',he,aO hel up,el▸lb,λy hy=>VQ hy⟩;rw[VP (VP rfl),dW];rfl
 ·have lt:∀r∈met,r<ZZ.length*c/\rk os r<k:=λr hr'=>oF ((hmet r).mp hr') λb b b f=>f.lv;have ka:∀r∈met,Pu.at_ ((Z9 ZZ.flatten.length).map (hk ZZ.flatten)) (r:Int)=Wb (hk ZZ.flatten r):=λr hr'=>by rw[c7,Y3,Q4 (by rw[ZR];exact(lt r hr').1)];rfl
  have cm:Pu.comp (λ(y20:Zn)=>(y20).bind λx21=>Pu.at_ ((Z9 ZZ.flatten.length).map (hk ZZ.flatten)) x21) (cs met)=Wb (met.map<|hk ZZ.flatten):=by rw[bX (g:=λv=>hk ZZ.flatten (v.getD 0).toNat) (by rw[xH];exact aO ml (by decide)) λv hv=>bN (U3.mp hv) λr hr' e=>by rw[<- e];exact ka r hr',V4];rfl
  have mm:∃m,A7 (met.map<|hk ZZ.flatten)=Wb m:=by
   cases met with
   |nil=>exact VR rfl ne
   |cons a l=>exact⟨_,rfl⟩
  obtain⟨m,em⟩:=mm;obtain⟨e,hem,ee⟩:=U3.mp (tF em).1;have le:∀r∈met,rk os e<=rk os r:=λr hr'=>by rw[o.le_iff (ZR.symm▸(lt e hem).1) (ZR.symm▸(lt r hr').1),ee];exact(tF em).2 _ (U3.mpr ⟨r,hr',rfl⟩)
  have m2:m.2=(e:Int):=by rw[<- ee];rfl
  have u':UF (Nb ZZ.length c Wf) (ZZ.length*c) (rk os) (k+1) (λy=>if y=x then Wb e else Wi y) (λs=>if s∈met/\s≠e then Wb (x,e) else par s):=by
   refine u.meet Nb.sy inj (met:=met) (elder:=e) hx hr (λo' s ho hs=>?_) (λr h=>?_) hem le (VP rfl) (λy hy=>VQ hy) (λs h1 h2=>VP ⟨h1,h2⟩) λs hs=>VQ hs
   ·exact bN (u.liv o' s hs) λr h1 h2=>⟨r,(hmet r).mpr ⟨o',ho,(u.dom o' (by rw[hs];exact nofun)).2,h2⟩,h1⟩
   ·exact oF ((hmet r).mp h) λo' h1 h2 h3=>k0 (u.has o' ⟨h1.2.1,h2⟩) λs hs=>bN (u.liv o' s hs) λr' g1 g2=>⟨o',s,h1,hs,h3.same inj g2▸g1⟩
  have hlx:(ls.set x<|some (e:Int))[x]?=Wb (Wb (e:Int)):=by rw[K4,VP rfl,VP (by rw[hl.lies.1];exact hx)]
  obtain⟨ls',Wt,g1,g2,g3,g4⟩:=shut_eq (f:=tlB (x:Int) (e:Int)) (λb=>CN) (λb=>Aq) hlx (by rw[T1,hl.lies.1];exact aO hn (by decide)) ml (by decide) (aO hel<|aO (L9 _<|cj k144) (by decide)) he;refine⟨ls',Wt,_,_,bj e1<|(VQ λz=>ne<|List.map_eq_nil_iff.mp<|of_decide_eq_true z).trans (bj (bj (bj cm em)<|congrArg Wb m2)<|bj ix<|bj g1 ?_),u',g3,by rw[Nat.succ_mul];exact aO g4<|Nat.add_le_add_right hel 144,g2▸LS u' (VP rfl),λy hy=>VQ hy⟩;rw[VQ];rw[VP rfl];exact λz=>Q0 k (by have q:=(lt e hem).2;rw[Z4 z,hr]at q;exact q)
set_option tactic.hygienic true in
def xK(hp:0<ZZ.length)(hc:0<c)(Wl:c<=900)(hm:ZZ.length<=900)(h:∀r∈ZZ,r.length=c)(hn:ZZ.length*c<=144)(o:Ord ZZ.flatten os):
  ∃Wi par,UF (Nb ZZ.length c Wf) (ZZ.length*c) (rk os) (ZZ.length*c) Wi par/\tK ZZ Wf=Wb (trL par (os.filter λx=>decide<|Wi x=Wb x)):=by
 have ZR:ZZ.flatten.length=ZZ.length*c:=bE h;have olen:=o.len.trans ZR;have h6:ZZ.flatten.length<=1000000:=by rw[ZR];exact aO hn (by decide)
 have e0:Pu.comp (λ(_:ZA)=>Wb (Wc:ZK)) ((Z9 ZZ.flatten.length).map (hk ZZ.flatten))=Wb (((Z9 ZZ.flatten.length).map (hk ZZ.flatten)).map λa=>Wc):=bX (by rw[Z5,X1];exact h6) λa a=>rfl;have e1:tG ((Z9 ZZ.flatten.length).map (hk ZZ.flatten))=Wb (os.map<|hk ZZ.flatten):=(VP ⟨by rw[Z5,X1,ZR];exact dM hn (by decide),rJ _⟩).trans (congrArg Wb<|yT h6 o);refine bN (iJ (f:=tsB ZZ Wf<|(Z9 ZZ.flatten.length).map (hk ZZ.flatten)) (xs:=os.map<|hk ZZ.flatten) (s:=(((Z9 ZZ.flatten.length).map (hk ZZ.flatten)).map λa=>Wc,[],[]))
  (λi s=>∃Wi par,UF (Nb ZZ.length c Wf) (ZZ.length*c) (rk os) i Wi par/\i9 s.2.1 par/\s.2.1.length<=i*144/\LabOk (Nb ZZ.length c Wf) (ZZ.length*c) (rk os) i s.1/\s.2.2=cl ((os.take i).filter λx=>decide<|Wi x=Wb x)) ?_ ?_) λs es zz=>oq25 zz λWi par u he a a hs=>?_
 ·refine⟨λa=>Wc,λa=>Wc,UF.start,λa=>rfl,U2 _,⟨⟨by rw[Z5,Z5,X1,ZR],λx a h=>VR h<|M6 _⟩,λx hx a=>?_⟩,rfl⟩;rw[Y3,Y3,Q4 (ZR.symm▸hx)];rfl
 ·intro i y s hy zq;refine oq25 zq λWi par u he hel hl hs=>?_;rw[Y3]at hy;refine bN (S7.mp hy) λx hx ex=>?_;subst ex;have hx':x<ZZ.length*c:=ZR▸(qa o hx).1;have ln:((os.take i).filter λx=>decide<|Wi x=Wb x).length<=i:=aO (W8 _ _)<|List.length_take_le _ _;generalize eS:(os.take i).filter (λx=>decide<|Wi x=Wb x)=S at hs ln;refine oq46 (CO (Wf:=Wf) hp hc Wl hm h hn o u he hel hl ln hx' (qa o hx).2) λls' Wt home' par' g1 g2 g3 g4 g5 g6=>⟨(ls',Wt,cl (if home' x=Wb x then S++[x] else S)),?_,home',par',g2,g3,g4,g5,?_⟩
  ·rw[<- hs]at g1;exact g1
  ·have tk:os.take (i+1)=os.take i++[x]:=by have e:=(Z6.mp hx).2;rw[<- e,P4]
   have fc:(os.take i).filter (λy=>decide<|home' y=Wb y)=(os.take i).filter λy=>decide (Wi y=Wb y):=List.filter_congr λy hy'=>by
    rw[g6 y λz=>?_];have:=L6.mp hy';refine k0 this λj hj=>?_;rw[List.getElem?_take]at hj;split at hj
    ·rename_i q;exact Q0 i (by have:=(qa o hj).2;rw[z,(qa o hx).2]at this;rw[this]at q ⊢;exact q)
    ·cases hj
   show cl _=cl _;rw[tk,List.filter_append,fc,eS];by_cases q:home' x=Wb x
   ·rw[VP q,K6 (by simpa using q)];rfl
   ·rw[VQ q,K5 (by simpa using q)];exact congrArg cl (V2 _).symm
 ·rw[Z5,olen]at u hs;rw[List.take_of_length_le (bK olen)]at hs;refine⟨Wi,par,u,bj (kY h6)<|bj e0<|bj e1<|bj es ?_⟩;show Pu.comp _ s.2.2=_;rw[hs];exact ends_eq he<|aO (W8 _ _)<|olen▸aO hn (by decide)
end
end Pf

namespace K10
open Fl Pu Gr Pf
def bnd{α β:Type}{o:Option α}{a:α}{f:α->Option β}{r:Option β}(h:o=Wb a)(k:f a=r):o.bind f=r:=by subst h;exact k
def nK{α:Type}{R:α->α->Prop}{p:α->Bool}(dn:∀a b,R a b->p b=Wd->p a=Wd):∀{l:List α},l.Pairwise R->l.filter p=l.take (l.filter p).length
 |[],_=>rfl
 |a ::l,h=>by
  obtain⟨h1,h2⟩:=List.pairwise_cons.mp h;by_cases q:p a=Wd
  ·rw[K6 q,X2,List.take_succ_cons,<- nK dn h2]
  ·have e:l.filter p=[]:=List.filter_eq_nil_iff.mpr λb hb z=>q<|dn a b (h1 b hb) z;rw[K5 q,e];rfl
section
variable {A:ZD}{n:Nat}{ρ:ZE}
def n8(A:ZD)(n:Nat)(ρ:ZE)(k:Nat)(i:Nat)(L:ZC):Prop :=
 L.length=n/\∀x,x<n->(¬ Lv n ρ k x->L[x]?=Wb Wc)/\∀r,Lv n ρ k x->Fst A n ρ k x r->L[x]?=Wb (if ρ r<i then Wb (r:Int) else Wc)
def n8.uniq{k i:Nat}{L M:ZC}(h:n8 A n ρ k i L)(g:n8 A n ρ k i M)(ex:∀x,Lv n ρ k x->∃r,Fst A n ρ k x r):L=M:=by
 apply N0;intro x;by_cases hx:x<n
 ·by_cases l:Lv n ρ k x
  ·obtain⟨r,f⟩:=ex x l;rw[(h.2 x hx).2 r l f,(g.2 x hx).2 r l f]
  ·rw[(h.2 x hx).1 l,(g.2 x hx).1 l]
 ·rw[T0 (by rw[h.1];exact Q6 hx),T0 (by rw[g.1];exact Q6 hx)]
end
section
variable {ZZ:ZX}{c:Nat}{Wf:Int}{os:ZT}
def jf(ZZ:ZX)(Wf:Int)(ks:ZW):dQ ZZ Wf ks=fT ZZ Wf ks:=by unfold dQ fT;rw[qN]
set_option tactic.hygienic true in
def yU(hc:0<c)(hr:∀r∈ZZ,r.length=c)(o:Ord ZZ.flatten os)(h:Int):
  os.filter (λy=>decide<|eZ ZZ c y<=h)=os.take (os.filter λy=>decide<|eZ ZZ c y<=h).length/\(os.filter λy=>decide<|eZ ZZ c y<=h).length<=ZZ.length*c/\∀x,x<ZZ.length*c->(rk os x<(os.filter λy=>decide<|eZ ZZ c y<=h).length↔eZ ZZ c x<=h):=by
 have fl:ZZ.flatten.length=ZZ.length*c:=bE hr;have pw:os.Pairwise λa b=>a∈os/\b∈os/\dZ (hk ZZ.flatten a) (hk ZZ.flatten b)=Wd:=by refine List.Pairwise.imp_of_mem ?_ o.up;exact λha hb h=>⟨ha,hb,h⟩
 have e:=nK (p:=λy=>decide<|eZ ZZ c y<=h) (λa b z q=>?_) pw
 ·have lk:(os.filter λy=>decide<|eZ ZZ c y<=h).length<=ZZ.length*c:=aO (W8 _ _) (by rw[o.len,fl];exact bW _);refine⟨e,lk,λx hx=>?_⟩;have hxo:x∈os:=o.mem.mpr (by rw[fl];exact hx);have m1:eZ ZZ c x<=h↔x∈os.take (os.filter λy=>decide<|eZ ZZ c y<=h).length:=by rw[<- e,X7,VS];exact⟨λz=>⟨hxo,z⟩,λz=>z.2⟩
  rw[m1]
  constructor
  ·intro z;have g:=o.at_rk (x:=x) (by rw[fl];exact hx);refine L6.mpr ⟨rk os x,?_⟩;rw[List.getElem?_take,VP z];exact g
  ·intro z;obtain⟨i,hi⟩:=L6.mp z;rw[List.getElem?_take]at hi;split at hi
   ·rename_i q;rw[o.rk_at hi];exact q
   ·cases hi
 ·obtain⟨z1,z2,z3⟩:=z;have ha:a<ZZ.length*c:=fl▸o.mem.mp z1;have hb:b<ZZ.length*c:=fl▸o.mem.mp z2;rw[jZ hc hr ha,jZ hc hr hb]at z3;unfold dZ key at z3;rw[VS]at z3 q ⊢;simp only at z3;rcases z3 with w|w
  ·exact Int.le_trans (Int.le_of_lt w) q
  ·exact Int.le_trans (Int.le_of_eq w.1) q
def vV(hp:0<ZZ.length)(hc:0<c)(Wl:c<=1000)(hm:ZZ.length<=1000)(hr:∀r∈ZZ,r.length=c)(ZQ:ZZ.length*c<64)(o:Ord ZZ.flatten os)(eo:dF ZZ=Wb (cl os))(h:Int):
  ∃L Wi par,jz ZZ Wf h=Wb L/\n8 (Nb ZZ.length c Wf) (ZZ.length*c) (rk os) (os.filter λy=>decide<|eZ ZZ c y<=h).length (os.filter λy=>decide<|eZ ZZ c y<=h).length L/\UF (Nb ZZ.length c Wf) (ZZ.length*c) (rk os) (os.filter λy=>decide<|eZ ZZ c y<=h).length Wi par:=by
 have fl:ZZ.flatten.length=ZZ.length*c:=bE hr;have inj:∀x y,x<ZZ.length*c->y<ZZ.length*c->rk os x=rk os y->x=y:=λx y hx hy=>o.inj x y (by rw[fl];exact hx) (by rw[fl];exact hy);obtain⟨e,lk,_⟩:=yU hc hr o h;have ol:(cl os).length<=1000000:=by rw[bz,o.len,fl];exact aO (cj ZQ) (by decide)
 have ec:dG ZZ h=Wb (cl (os.filter λy=>decide<|eZ ZZ c y<=h)):=by
  unfold dG;rw[eo,bs,fV (p:=λy=>decide<|eZ ZZ c y.toNat<=h) (g:=λy=>y) ol (λy hy=>?_) λa a a=>rfl]
  ·unfold cl;rw[List.map_id',List.filter_map];congr 2
  ·obtain⟨k,hk,rfl⟩:=fW.mp hy;rw[dU hc Wl hr (fl▸o.mem.mp hk),bs,W4]
 have Ai:∀i x,(os.filter λy=>decide<|eZ ZZ c y<=h)[i]?=Wb x->x<ZZ.length*c/\rk os x=i:=λi x hx=>by
  rw[e,List.getElem?_take]at hx;split at hx
  ·exact⟨fl▸o.mem.mp (X6 hx),o.rk_at hx⟩
  ·cases hx
 obtain⟨Wh,Wg,Wi,par,ew,u,he,hh⟩:=kr (Wf:=Wf) hp hc Wl hm hr (fD ZQ (by decide)) o Ai;have st:=λx (hx:x<ZZ.length*c)=>tP (ZZ:=ZZ) (Wf:=Wf) inj u (aO lk<|aO (cj ZQ) (by decide)) he hh hx;have ok:∀x,x<ZZ.length*c->∃v,aN (ZZ,Wf,Wh,Wg) (x:Int)=Wb v:=λx hx=>by
  rcases st x hx with z|⟨r,_,_,z⟩
  ·exact⟨_,z.2⟩
  ·exact⟨_,z⟩
 have all:∀y∈cl (Z9<|ZZ.length*c),aN (ZZ,Wf,Wh,Wg) y=Wb ((aN (ZZ,Wf,Wh,Wg) y).getD Wc):=λy hy=>by obtain⟨x,hx,rfl⟩:=fW.mp hy;obtain⟨v,z⟩:=ok x<|R4.mp hx;rw[z];rfl
 refine⟨(cl<|Z9<|ZZ.length*c).map λy=>(aN (ZZ,Wf,Wh,Wg) y).getD Wc,Wi,par,?_,⟨by rw[Z5,bz,X1],λx hx=>?_⟩,u⟩
 ·unfold jz;refine bnd (bnd ec (by rw[jf];exact ew))<|bnd (db hp Wl hm hr) ?_;exact bX (by rw[bz,X1];exact aO (cj ZQ) (by decide)) all
 ·have g:((cl<|Z9<|ZZ.length*c).map λy=>(aN (ZZ,Wf,Wh,Wg) y).getD Wc)[x]?=Wb ((aN (ZZ,Wf,Wh,Wg) (x:Int)).getD Wc):=by unfold cl;rw[V4,Y3,Q4 hx];rfl
  rw[g];rcases st x hx with ⟨z1,z2⟩|⟨r,l,f,z⟩
  ·refine⟨λa=>by rw[z2];rfl,λr l a=>?_⟩;obtain⟨s,hs⟩:=u.has x l;rw[z1]at hs;cases hs
  ·refine⟨λq=>VR l q,λr' a f'=>?_⟩;have e:=f.same inj f';subst e;have lr:rk os r<(os.filter λy=>decide<|eZ ZZ c y<=h).length:=dM (f.min x .here) l.2;rw[z,VP lr];rfl
end
set_option tactic.hygienic true in
def yV:∀(l Wo:ZW) (x:Int),x∈l.foldl hJ Wo↔x∈Wo\/x∈l
 |[],Wo,x=>by simp
 |a ::l,Wo,x=>by
  rw[List.foldl_cons,yV l (hJ Wo a) x];have:x∈hJ Wo a↔x∈Wo\/x=a:=by
   unfold hJ;split
   ·rename_i h;rw[J8]at h;obtain⟨y,hy,e⟩:=h;have e:y=a:=by simpa using e
    subst e;exact⟨.inl,λz=>z.elim id λz=>z▸hy⟩
   ·rw[Y9,Y0]
  rw[this,Y1]
  constructor
  ·rintro((z|z)|z)
   ·exact .inl z
   ·exact .inr<|.inl z
   ·exact .inr<|.inr z
  ·rintro(z|z|z)
   ·exact .inl<|.inl z
   ·exact .inl<|.inr z
   ·exact .inr z
section
variable {ZZ:ZX}{c:Nat}{Wf:Int}
def Ar(ZZ:ZX)(Wf:Int):gW ZZ Wf=oE ZZ Wf:=by unfold gW oE;simp only[jf]
def CP(hc:0<c)(hr:∀r∈ZZ,r.length=c):ZZ.flatten=(Z9<|ZZ.length*c).map (eZ ZZ c):=by
 apply N0;intro i;rw[Y3];by_cases hi:i<ZZ.length*c
 ·rw[jF hc hr hi,Q4 hi];rfl
 ·rw[T0 (by rw[bE hr];exact Q6 hi),T0 (by rw[X1];exact Q6 hi)];rfl
open Classical in
end
end K10

namespace K27
open Fl Pu Gr Pf
def vW{m c:Nat}{hs:ZW}(hm:m<=1000)(hc:c<=1000):i5 ((m:Int),(c:Int)) hs=Wb ((Z9 m).map λy=>(hs.drop<|y*c).take c):=by
 have c1:-(2^64)<((c:Nat):Int):=Int.lt_of_lt_of_le (by decide)<|Int.natCast_nonneg c;have c2:((c:Nat):Int)<2^64:=G7 (M4.mpr hc) (by decide);unfold i5;simp only;rw[jE (aO hm (by decide)),bs,bX (g:=λy=>(hs.drop<|y.toNat*c).take c) (by rw[jD];exact aO hm (by decide)) λy hy=>?_]
 ·unfold nats;rw[V4];congr 1
 ·obtain⟨i,_,rfl⟩:=pX.mp hy;rw[ja ⟨c1,c2⟩,bs,bs,ja ⟨c1,c2⟩,bs,bs,W4];have e1:(i:Int)*(c:Int)=((i*c:Nat):Int):=(J1 i c).symm;have e2:((i:Int)+1)*(c:Int)=(((i+1)*c:Nat):Int):=(J1 (i+1) c).symm;rw[e1,e2,yK,Nat.succ_mul,Nat.add_sub_cancel_left]
def chunk{ZZ:ZX}{c:Nat}(h:∀r∈ZZ,r.length=c):(Z9 ZZ.length).map (λy=>(ZZ.flatten.drop<|y*c).take c)=ZZ:=by
 induction ZZ with
 |nil=>rfl
 |cons r rs ih =>
  have hr:r.length=c:=h r Y5;rw[X2,List.range_succ_eq_map,V7,V4,List.flatten_cons];congr 1
  ·rw[Nat.zero_mul,List.drop_zero,List.take_append_of_le_length (bK hr.symm),List.take_of_length_le (bK hr)]
  ·refine Eq.trans (U1 λy x=>?_) (ih λr hr=>h r<|Y8 _ hr);show ((r++rs.flatten).drop ((y+1)*c)).take c=_;rw[Nat.succ_mul,Nat.add_comm,<- hr,List.drop_append,List.drop_eq_nil_of_le (R3 _ _),List.nil_append,Nat.add_sub_cancel_left]
end K27

namespace K36
open Fl Pu Gr PySem
section
variable {m c:Nat}{Wf:Int}{os:ZT}{k:Nat}{H:Nat->Int}{Wp:Int}
def tU(hk:∀x,x<m*c->(rk os x<k↔H x<=Wp)){x y:Nat}(hx:x<m*c):Rch (λa b=>b∈gE m c Wf a) (λa=>decide (H a<=Wp)=Wd) x y↔Rch (Nb m c Wf) (Lv (m*c) (rk os) k) x y:=by
 constructor
 ·intro h;have:y<m*c/\Rch (Nb m c Wf) (Lv (m*c) (rk os) k) x y:=by
   induction h with
   |here=>exact⟨hx,.here⟩
   |on _ h2 h3 ih =>have hz:=(cG.mp h2).1;exact⟨hz,.on ih.2 ((kX ih.1).mpr h2) ⟨hz,(hk _ hz).mpr (of_decide_eq_true h3)⟩⟩
  exact this.2
 ·intro h;induction h with
  |here=>exact .here
  |on _ h2 h3 ih=>exact .on ih ((kX h2.1).mp h2) (VU<|(hk _ h3.1).mp h3.2)
open Classical in
open Classical in
end
end K36

namespace Gr
open Fl Pu
section
variable {n:Nat}{α:Type}{S0:List α}{l:α}
def MrA(n:Nat)(S0:List α)(l:α)(S:List α)(kk:ZT):Prop:=S.length=n/\∀z,z<n->S[z]?=if z∈kk then Wb l else S0[z]?
def MrA.set{S:List α}{kk:ZT}{o:Nat}(h:MrA n S0 l S kk)(ho:o<n):MrA n S0 l (S.set o l) (kk++[o]):=by
 refine⟨by rw[T1];exact h.1,λz hz=>?_⟩;by_cases e:o=z
 ·rw[<- e,N5 (by rw[h.1];exact ho),VP (Y2 _ Y5)]
 ·rw[P9 e,h.2 z hz];have:z∈kk++[o]↔z∈kk:=by rw[Y9,Y0];exact⟨λq=>q.elim id λq=>VR q.symm e,.inl⟩
  rw[tT this]
end
end Gr

namespace Pf
open Fl Pu Gr L2
def CQ{hs:ZW}{os:ZT}(h:hs.length<64)(o:Ord hs os):pC ((Z9 hs.length).map (hk hs))=Wb (os.map<|hk hs) :=
 (VP ⟨by rw[Z5,X1];exact h,rJ _⟩).trans (congrArg Wb<|yT (aO (cj h) (by decide)) o)
def xL{ZZ:ZX}{Wf:Int}(h:ZZ.flatten.length<64):mi ZZ Wf=tK ZZ Wf:=by
 have e:pC ((Z9 ZZ.flatten.length).map (hk ZZ.flatten))=tG ((Z9 ZZ.flatten.length).map (hk ZZ.flatten)):=by unfold pC tG;rw[VP ⟨by rw[Z5,X1];exact h,rJ _⟩,VP ⟨by rw[Z5,X1];exact fD h (by decide),rJ _⟩]
 unfold mi tK;rw[kY (aO (cj h) (by decide)),bs,bs,e]
section
variable {ZZ:ZX}{c k:Nat}{Wf Wp:Int}{os:ZT}{H:Nat->Int}{ks:ZF}
def lbB(ks:ZF)(Wp l:Int):(List<|Option<|Int)×(List<|Int)->Int->Option ((List<|Option<|Int)×(List<|Int)):=λ(s17:(List<|Option<|Int)×(List<|Int)) (x16:Int)=>((((Pu.at_ ks x16).bind λx18=>Wb<|x18.1).bind λx19=>Wb<|decide<|x19<=Wp).bind λx21=>if x21=Wd then (Pu.at_ s17.1 x16).bind λx20=>Wb (x20.isNone) else Wb We).bind λx27=>if x27=Wd then (k9 (s17.1).length x16).bind λj23=>(λlabels_here24=>(Pu.app s17.2 x16).bind λleft26=>Wb<|(labels_here24,left26)) ((s17.1).set j23 (Wb l)) else Wb ((s17.1,s17.2))
def look_31{m x:Nat}{S0:ZC}{l:Int}{u:Nat}(hH:∀x,x<m*c->∃v,ks[x]?=Wb (H x,v))(h0:∀o,Rch (λa b=>b∈gE m c Wf a) (λa=>decide (H a<=Wp)=Wd) x o->o≠x->S0[o]?=Wb Wc):Lk x (λS kk=>x∈kk/\MrA (m*c) S0 (Wb l) S kk) (gE m c Wf) (λa=>decide<|H a<=Wp) u (lbB ks Wp l):=by
 intro o S kk w ho _ ⟨hx,mk⟩;have ho:=(cG.mp ho).1;obtain⟨v,hv⟩:=hH o ho;unfold lbB;simp only;rw[c7,hv,bs,bs,bs];refine⟨λh=>bj (a:=We) ?_<|VQ Z3,λh1 h2 h3 i h4=>⟨_,bj (a:=Wd) ?_<|(VP rfl).trans (bj (mw (by rw[mk.1];exact ho))<|bj (i8<|aO h4 (by decide)) rfl),X8 _ hx,mk.set ho⟩⟩
 ·by_cases q:H o<=Wp
  ·rw[VP (VU q),c7,mk.2 o ho,VP (h.elim id λz=>VR (VU q) (by rw[z];exact Z3)),bs];rfl
  ·exact VQ (by rw[VW q];exact Z3)
 ·rw[VP h2,c7,mk.2 o ho,VQ h1,h0 o h3 λe=>h1<|e▸hx,bs];rfl
def lbW(ZZ:ZX)(Wf Wp:Int)(ks:ZF)(l:Int):(List<|Option<|Int)×(List<|Int)->Option ((List<|Option<|Int)×(List<|Int)):=λ(s13:(List<|Option<|Int)×(List<|Int))=>(s13.2).getLast?.bind λa15=>(g8 ZZ Wf a15).bind λx28=>(Pu.bB (lbB ks Wp l) x28 (s13.1,(s13.2).dropLast)).bind λ(s17:(List<|Option<|Int)×(List<|Int))=>Wb<|(s17.1,s17.2)
def lbF(ZZ:ZX)(Wf Wp:Int)(ks:ZF):List (Option Int)->Int×Int->Option (List<|Option Int):=λ(s7:(List<|Option<|Int)) (x6:Zp)=>(if (decide<|x6.1<=Wp)=Wd then (Pu.at_ s7 x6.2).bind λx8=>Wb (x8.isNone) else Wb We).bind λx29=>if x29=Wd then (k9 (s7).length x6.2).bind λj10=>(λlabels_here11=>(Pu.nC (λ(s13:(List<|Option<|Int)×(List<|Int))=>Wb<|decide<|0<ln s13.2) (lbW ZZ Wf Wp ks x6.2) 100000 (labels_here11,[x6.2])).bind λ(s13:(List<|Option<|Int)×(List<|Int))=>Wb<|s13.1) ((s7).set j10 (Wb<|x6.2)) else Wb (s7)
abbrev LO(ZZ:ZX)(c:Nat)(Wf:Int)(os:ZT)(k:Nat):=K10.n8 (Nb ZZ.length c Wf) (ZZ.length*c) (rk os) k
abbrev Ai(ZZ:ZX):=(Z9 ZZ.flatten.length).map (hk ZZ.flatten)
def tV(hp:0<ZZ.length)(hc:0<c)(Wl:c<=900)(hm:ZZ.length<=900)(h:∀r∈ZZ,r.length=c)(hn:ZZ.length*c<64)(o:Ord ZZ.flatten os)(hH:∀x,x<ZZ.length*c->ZZ.flatten[x]?=Wb (H x))(hk':∀x,x<ZZ.length*c->(rk os x<k↔H x<=Wp))(ex:∀x,Lv (ZZ.length*c) (rk os) k x->∃r,Fst (Nb ZZ.length c Wf) (ZZ.length*c) (rk os) k x r):
  ∃L,iI ZZ Wf Wp=Wb L/\LO ZZ c Wf os k (ZZ.length*c) L:=by
 have fl:ZZ.flatten.length=ZZ.length*c:=bE h;have inj:∀x y,x<ZZ.length*c->y<ZZ.length*c->rk os x=rk os y->x=y:=λx y hx hy=>o.inj x y (by rw[fl];exact hx) (by rw[fl];exact hy);have ol:os.length=ZZ.length*c:=o.len.trans fl;have h6:ZZ.flatten.length<=1000000:=by rw[fl];exact aO (cj hn) (by decide)
 have kx:∀x,x<ZZ.length*c->(Ai ZZ)[x]?=Wb (hk ZZ.flatten x):=λx hx=>by rw[Y3,Q4 (fl.symm▸hx)];rfl
 have hkx:∀x,x<ZZ.length*c->hk ZZ.flatten x=(H x,(x:Int)):=λx hx=>by show (ZZ.flatten.getD x 0,(x:Int))=_;rw[List.getD_eq_getElem?_getD,hH x hx];rfl
 have e0:Pu.comp (λ(_:ZA)=>Wb (Wc:ZK)) (Ai ZZ)=Wb ((Ai ZZ).map λn=>Wc):=bX (by rw[Z5,X1];exact h6) λn n=>rfl;unfold iI;rw[kY h6,bs,e0,bs,CQ (fl.symm▸hn) o,bs];have base:LO ZZ c Wf os k 0 ((Ai ZZ).map λn=>Wc):=by
  refine⟨by rw[Z5,Z5,X1,fl],λx hx=>?_⟩;have g:((Ai ZZ).map λn=>(Wc:ZK))[x]?=Wb Wc:=by rw[Y3,kx x hx];rfl
  exact⟨λn=>g,λr n n=>by rw[g,VQ (M6 _)]⟩
 have step:∀i y S,(os.map<|hk ZZ.flatten)[i]?=Wb y->LO ZZ c Wf os k i S->∃s',lbF ZZ Wf Wp (Ai ZZ) S y=Wb s'/\LO ZZ c Wf os k (i+1) s':=by
  intro i y S hy ok;rw[Y3]at hy;obtain⟨x,hx,rfl⟩:=S7.mp hy;have hxn:x<ZZ.length*c:=fl▸o.mem.mp (X6 hx);have hxr:rk os x=i:=o.rk_at hx;rw[hkx x hxn];unfold lbF;have stay:(∀r,Fst (Nb ZZ.length c Wf) (ZZ.length*c) (rk os) k x r->r≠x)->∃s',(Wb S:Option (List<|Option Int))=Wb s'/\LO ZZ c Wf os k (i+1) s':=λnr=>⟨S,rfl,ok.1,λz hz=>⟨(ok.2 z hz).1,λr l f=>by
   rw[(ok.2 z hz).2 r l f];have ne:rk os r≠i:=λv=>by have e:r=x:=inj r x f.lv.1 hxn<|v.trans hxr.symm;subst e;exact nr r (f.of_rch Nb.sy l f.rch) rfl
   have:rk os r<i↔rk os r<i+1:=by omega
   rw[tT this]⟩⟩
  by_cases q:H x<=Wp
  ·have lx:Lv (ZZ.length*c) (rk os) k x:=⟨hxn,(hk' x hxn).mpr q⟩;obtain⟨r,f⟩:=ex x lx;simp only;rw[VP (VU q),c7,(ok.2 x hxn).2 r lx f,bs,bs];by_cases e:r=x
   ·subst e;rw[hxr,VQ (Q0 i),VP (show (Wc:ZK).isNone=Wd from rfl),mw (by rw[ok.1];exact hxn),bs];have h0:∀o',Rch (λa b=>b∈gE ZZ.length c Wf a) (λa=>decide (H a<=Wp)=Wd) r o'->o'≠r->S[o']?=Wb Wc:=λo' h n=>by have h:=(K36.tU hk' hxn).mp h;have lo:=h.ok_ lx;rw[(ok.2 o' lo.1).2 r lo (f.of_rch Nb.sy lx h),hxr,VQ (Q0 i)]
    obtain⟨d',kk,es,sa,mk,_⟩:=vJ (nb:=gE ZZ.length c Wf) (ok:=λa=>decide<|H a<=Wp) (M:=λS' kk=>r∈kk/\MrA (ZZ.length*c) S (Wb (r:Int)) S' kk) (x:=r) (aO (cj hn) (by decide)) hxn (λu hu o' ho=>(cG.mp ho).1) ⟨Y0.mpr rfl,MrA.set (kk:=[]) ⟨ok.1,λn n=>(VQ λz=>nomatch z).symm⟩ hxn⟩
     (t:=λ(s13:(List<|Option<|Int)×(List<|Int))=>Wb<|decide<|0<ln s13.2) (f:=lbW ZZ Wf Wp (Ai ZZ) (r:Int))
     (λd w=>by
      show Wb (decide<|0<((w.length:Nat):Int))=_;cases w with
      |nil=>rfl
      |cons a b=>rw[VU (show (0:Int)<(((a ::b).length:Nat):Int) from U5.mpr<|Nat.succ_pos _),VW (List.cons_ne_nil a b)];rfl) λd w ws hu=>by
      obtain⟨u,ws',e⟩:=yN w ws;refine⟨u,ws',_,e▸Tk.last,?_,look_31 (λx hx=>⟨_,(kx x hx).trans (congrArg Wb<|hkx x hx)⟩) h0⟩;have el:cl (w ::ws)=cl ws'++[(u:Int)]:=e▸dW ws' [u];unfold lbW;rw[el];show ((cl ws'++[(u:Int)]).getLast?.bind _)=_;rw[List.getLast?_concat,bs,qd hp hc (aO Wl (by decide)) (aO hm (by decide)) h (hu u<|e▸Y2 _ Y5),bs,vI];show bB _ _ (d,(cl ws'++[(u:Int)]).dropLast)=_;rw[List.dropLast_concat]
    replace mk:=mk.2
    ·rw[es,bs];have mem:∀z,z∈kk↔Rch (Nb ZZ.length c Wf) (Lv (ZZ.length*c) (rk os) k) r z:=λz=>sa.all.trans<|K36.tU hk' hxn;refine⟨_,rfl,mk.1,λz hz=>⟨λnl=>?_,λr' l' f'=>?_⟩⟩
     ·rw[mk.2 z hz,VQ λw=>nl<|((mem z).mp w).ok_ lx];exact(ok.2 z hz).1 nl
     ·rw[mk.2 z hz];by_cases w:z∈kk
      ·have e:r'=r:=f'.same inj<|f.of_rch Nb.sy lx<|(mem z).mp w;subst e;rw[VP w,hxr,VP (V3 i)]
      ·rw[VQ w,(ok.2 z hz).2 r' l' f'];have ne:rk os r'≠i:=λv=>w ((mem z).mpr (by
        have e:r'=r:=inj r' r f'.lv.1 hxn<|v.trans hxr.symm;subst e;exact f'.rch.symm Nb.sy l'))
       have:rk os r'<i↔rk os r'<i+1:=by omega
       rw[tT this]
   ·have lt:rk os r<i:=G2 (hxr▸f.min x .here) λz=>e<|inj r x f.lv.1 hxn<|z.trans hxr.symm;rw[VP lt,VQ (by simp)];exact stay λr' f' e'=>e<|(f.same inj f').trans e'
  ·simp only;rw[VQ (by rw[VW q];exact Z3),bs,VQ Z3];exact stay λr f e=>q<|(hk' x hxn).mp (e▸f.lv.2)
 obtain⟨s,es,ok⟩:=iJ (f:=lbF ZZ Wf Wp<|Ai ZZ) (xs:=os.map<|hk ZZ.flatten) (λi s=>LO ZZ c Wf os k i s) base step;rw[Z5,ol]at ok;exact⟨s,bj es rfl,ok⟩
end
def rise_w{n:Nat}{nb:ZG}{rim ok:ZH}{t:List Int×nX×hZ->Option Bool}{f:List Int×nX×hZ->Option (List Int×nX×hZ)}(hnb:∀u,∀o∈nb u,o<n)(hnd:∀u,(nb u).Nodup)(ht:∀w r d,t (w,r,d)=Wb (!w.isEmpty))(hf:∀(R K W:ZT) (u:Nat) (rd:nX) (d:hZ),rd.map (·.1)=cl R->d.map (·.1)=cl K->Iv n nb rim ok R K (W++[u])->∃rd' d',f (cl<|W++[u],rd,d)=Wb (cl<|W++((nb u).filter λo=>!decide (o∈K)).filter ok,rd',d')/\rd'.map (·.1)=cl (R++[u])/\d'.map (·.1)=cl (K++(nb u).filter λo=>!decide (o∈K))):
  ∀(N:Nat) (R K W:ZT) (rd:nX) (d:hZ),n<N+R.length->rd.map (·.1)=cl R->d.map (·.1)=cl K->Iv n nb rim ok R K W->∃R' K' rd' d',nC t f N (cl W,rd,d)=Wb ([],rd',d')/\rd'.map (·.1)=cl R'/\d'.map (·.1)=cl K'/\Iv n nb rim ok R' K' []:=by
 intro N;induction N with
 |zero=>exact λR K W rd d hN x x I=>by have:=dA n I.rn λr hr=>I.kl r<|I.rk r hr;omega
 |succ N ih =>
  intro R K W rd d hN hR hK I;cases W with
  |nil=>exact⟨R,K,rd,d,bj (ht _ _ _) rfl,hR,hK,I⟩
  |cons w ws =>obtain⟨u,W,e⟩:=yN w ws;have ne:(cl (w ::ws)).isEmpty=We:=rfl;rw[e]at I ne ⊢;obtain⟨rd1,d1,e1,h1,h2⟩:=hf R K W u rd d hR hK I;obtain⟨R',K',rd',d',e2,h⟩:=ih (R++[u]) _ _ rd1 d1 (by simp;omega) h1 h2<|I.step hnb hnd;exact⟨R',K',rd',d',bj (ht _ _ _)<|(VP (by rw[ne];rfl)).trans (bj e1 e2),h⟩
section
variable {ZZ:ZX}{c:Nat}{Wf:Int}
abbrev IvR(ZZ:ZX)(c:Nat)(Wf:Int):=Iv (ZZ.length*c) (gE ZZ.length c Wf)<|qc ZZ.length c
def rise_e(S:ShpW ZZ c 60){h:Int}{ok':ZH}{R K:ZT}{rd:nX}{d:hZ}(hR:rd.map (·.1)=cl R)(hK:d.map (·.1)=cl K)(I:IvR ZZ c Wf ok' R K [])(ho:∀x,ok' x=Wd->Ak ZZ c h x=Wd):
  ∃R' K' rd' d',bZ (ZZ,Wf,rd,d) h=Wb (rd',d')/\rd'.map (·.1)=cl R'/\d'.map (·.1)=cl K'/\IvR ZZ c Wf (Ak ZZ c h) R' K' []:=by
 have Wl:c<=1000:=aO S.cmost (by decide);have hm:ZZ.length<=1000:=aO S.most12 (by decide);have h60:=S.area;have hnb:∀u,∀o∈gE ZZ.length c Wf u,o<ZZ.length*c:=λu o ho=>(cG.mp ho).1;have hnd:∀u,(gE ZZ.length c Wf u).Nodup:=λu=>L8.filter _;unfold bZ;refine oq44 (rise_w (t:=λs=>Wb<|!s.1.isEmpty) (f:=_) hnb hnd (λa a a=>rfl) ?_ 100000 R K (K.filter λk=>!decide (k∈R)&&Ak ZZ c h k) rd d (by omega) hR hK<|I.begin ho) λR' K' rd' d' e1 h1 h2 h3=>⟨R',K',rd',d',bj (?_:_=Wb (cl (K.filter λk=>!decide (k∈R)&&Ak ZZ c h k)))<|bj e1 rfl,h1,h2,h3⟩
 ·intro R K W u rd d hR hK I;have ul:u∈W++[u]:=Y2 _ Y5;have uk:=I.wk u ul;have rl:rd.length=R.length:=(Z5 (·.1)).symm.trans ((congrArg F6 hR).trans (bz R));have l1:=dA _ I.rn λr hr=>I.kl r<|I.rk r hr;have a4:=dA _ I.wn λr hr=>I.kl r<|I.wk r hr;have a3:=lH ZZ.length c Wf u;refine⟨_,_,bj ((congrArg List.getLast?<|dW W [u]).trans (tO _ _))<|(VP (show rd.length<16777216 by omega)).trans ?_,n6 (F:=[u]) (v:=h) hR,n6 (v:=Wb (u:Int)) hK⟩;show (λrd=>_) (Pu.put rd (u:Int) h)=_;rw[mq (by rw[hR];exact λz=>I.wr u ul<|c8.mp z)];refine bj (qO S.pos S.cpos Wl hm S.row (by omega) hK I.kn I.kl<|I.kl u uk)<|bj (n5 (q:=Ak ZZ c h) (aO (W8 _ _)<|aO a3 (by omega)) λx hx=>?_)<|bj (?_:CY (cl<|W++[u]).dropLast _=Wb (cl<|W++((gE ZZ.length c Wf u).filter λo=>!decide (o∈K)).filter (Ak ZZ c h))) rfl
  ·have hx':=X7.mp hx;rw[Bool.not_eq_true',VT]at hx';refine(vP (Wf:=Wf) (R:=R++[u]) S.cpos Wl S.row (n6 (F:=[u]) (v:=h) hR) (hnb u x hx'.1) h).trans ?_;rw[VW λz=>hx'.2 ((Y9.mp z).elim (I.rk x) λy=>Y0.mp y▸uk)];rfl
  ·rw[dW,show cl [u]=[(u:Int)] from rfl,List.dropLast_concat,dW];refine Ct ?_;rw[bz,bz];have a1:=W8 (Ak ZZ c h) ((gE ZZ.length c Wf u).filter λo=>!decide (o∈K));have a2:=W8 (λo=>!decide (o∈K))<|gE ZZ.length c Wf u;rw[X4]at a4;show W.length+(((gE ZZ.length c Wf u).filter λo=>!decide (o∈K)).filter (Ak ZZ c h)).length<=1000000;omega
 ·rw[show (d.map λx=>x.1)=cl K from hK];exact n5 (by have:=dA _ I.kn I.kl;omega) λx hx=>vP S.cpos Wl S.row hR (I.kl x hx) h
def rise_l(S:ShpW ZZ c 60)(hs:ZW):∀(R K:ZT) (rd:nX) (d:hZ) (ok':ZH),hs.Pairwise (·<·)->rd.map (·.1)=cl R->d.map (·.1)=cl K->IvR ZZ c Wf ok' R K []->(∀h∈hs,∀x,ok' x=Wd->Ak ZZ c h x=Wd) ->
  ∃R' K' rd' d' ok,bB (λ(s3:nX×hZ) (x2:Int)=>(bZ (ZZ,Wf,s3.1,s3.2) x2).bind λc=>Wb (c.1,c.2)) hs (rd,d)=Wb (rd',d')/\rd'.map (·.1)=cl R'/\IvR ZZ c Wf ok R' K' []/\(∀x,ok' x=Wd->ok x=Wd)/\∀h∈hs,∀x,Ak ZZ c h x=Wd->ok x=Wd:=by
 induction hs with
 |nil=>exact λR K rd d ok' a hR a I a=>⟨R,K,rd,d,ok',rfl,hR,I,λa z=>z,λa z=>nomatch z⟩
 |cons h hs ih =>intro R K rd d ok' pw hR hK I ho;have pw:=List.pairwise_cons.mp pw;obtain⟨R1,K1,rd1,d1,e1,h1,h2,I1⟩:=rise_e S hR hK I<|ho h Y5;obtain⟨R2,K2,rd2,d2,ok,e2,h3,I2,m1,m2⟩:=ih R1 K1 rd1 d1 _ pw.2 h1 h2 I1 λh' hh=>ok_up<|Int.le_of_lt<|pw.1 h' hh;exact⟨R2,K2,rd2,d2,ok,bj (bj e1 rfl) e2,h3,I2,λx z=>m1 x<|ho h Y5 x z,λh' hh x z=>(Y1.mp hh).elim (λe=>m1 x<|e▸z) λhh=>m2 h' hh x z⟩
def As(S:ShpW ZZ c 60):∃lv,filled ZZ Wf=Wb lv/\lv.length=ZZ.length:=by
 have Wl:c<=1000:=aO S.cmost (by decide);have hm:ZZ.length<=1000:=aO S.most12 (by decide);have ZQ:ZZ.length*c<64:=dM S.area (by decide);obtain⟨as,ea,pw,ma,_⟩:=once_eq (hs:=ZZ.flatten) (by rw[bE S.row];exact S.area);have kf:∀k,k∈(Z9<|ZZ.length*c).filter (qc ZZ.length c)↔k<ZZ.length*c/\qc ZZ.length c k=Wd:=λk=>by rw[X7,R4]
 obtain⟨R,K,rd,d,ok,e1,e2,I,_,m⟩:=rise_l (Wf:=Wf) S as [] _ [] (((Z9<|ZZ.length*c).filter (qc ZZ.length c)).map λ(o:Nat)=>((o:Int),Wc)) (λa=>We) pw rfl (by unfold cl;rw[V4];rfl) ⟨List.nodup_nil,L8.filter _,List.nodup_nil,λk hk=>((kf k).mp hk).1,(λa z=>nomatch z),(λa z=>nomatch z),(λa z=>nomatch z),(λa z=>nomatch z),(λa a z=>nomatch z),(λa z=>nomatch z),λx h1 h2=>(kf x).mpr ⟨h1,h2⟩,λk hk=>.inl ((kf k).mp hk).2,(λa z=>nomatch z)⟩ λa a a z=>nomatch z;have mem:∀x,x<ZZ.length*c->eZ ZZ c x∈as:=λx hx=>(ma _).mpr (X6<|jF S.cpos S.row hx);have lvs:∀y,y<ZZ.length*c->find rd (y:Int)=Wb ((find rd (y:Int)).getD 0):=λy hy=>by
  have ne:as≠[]:=λz=>by have:=mem y hy;rw[z]at this;cases this
  have fs:(find rd (y:Int)).isSome=Wd:=by
   rw[find_some,e2];refine VU<|c8.mpr<|I.done.mpr<|(wet_all S.cpos (h:=as.getLast ne) (λx hx=>?_) y hy).mono (m _<|List.getLast_mem ne);have q:=mem x hx;rw[<- List.dropLast_concat_getLast ne]at q pw;rcases Y9.mp q with z|z
   ·exact Int.le_of_lt<|(List.pairwise_append.mp pw).2.2 _ z _ Y5
   ·exact Int.le_of_eq<|Y0.mp z
  obtain⟨l,el⟩:=Option.isSome_iff_exists.mp fs;rw[el];rfl
 exact⟨_,bj (bj ((Am S.pos S.cpos Wl hm S.row ZQ).trans ea)<|bj (vQ S.pos S.cpos Wl hm S.row ZQ)<|bj e1 rfl)<|bj (dH S.pos S.row)<|bj (bj (db S.pos Wl hm S.row)<|bX (g:=λy=>(find rd y).getD 0) (by rw[bz,X1];omega) (λy hy=>by obtain⟨x,hx,rfl⟩:=fW.mp hy;exact lvs x (R4.mp hx):∀y∈cl (Z9<|ZZ.length*c),find rd y=Wb ((find rd y).getD 0)))<|An hm Wl,by rw[Z5,X1]⟩
end
end Pf

namespace K31
open PySem PySem.Spec PyProof.Rows L2 Pu Pf K10
abbrev spLaw:=@L2.wR
abbrev pl0:List Str:=["self","floor","reach"]
abbrev D0:List Str:=["floor"]
abbrev pl2:List Str:=["self","cell"]
abbrev pl3:List Str:=["self","height"]
abbrev pl4:List Str:=["_law_found","_law_due"]
abbrev pl5:List Str:=["self","cell","height"]
abbrev pl6:List Str:=["floor","reach","cells"]
abbrev pl7:List Str:=["floor","reach","heights"]
abbrev pl8:List Str:=["floor","reach","cell","last"]
abbrev pl9:List Str:=["_law_found","_law_due","_law_one","_law_other"]
abbrev jg:WH:=inClass (top 31) 0
abbrev gB:WH:=inClass (top 20) 0
abbrev iM:WH:=inClass (top 21) 0
abbrev gC:WH:=inClass (top 20) 2
abbrev iN:WH:=inClass (top 21) 3
abbrev gN:WH:=top 22
abbrev cJ:WH:=inClass (top 16) 0
abbrev fO:WH:=inClass (top 16) 3
abbrev ia:WH:=inClass (top 16) 1
abbrev gO:WH:=top 17
abbrev mz:WH:=top 47
abbrev CM:Wy:=nat_lit 190
abbrev CW:Wy:=nat_lit 228
abbrev CR:Wy:=nat_lit 140
abbrev CL:Wy:=nat_lit 344
structure Al[Kn:Kon](K:Z1)(mg:ZM)(base:WD):Prop where
 B:Blt mg
 kM:MK K CM
 kW:WK K CW
 kR:RK K CR
 kL:LK K CL
 d0:bv K mg "_law_cell_at" (top 33) ["_law_script","_law_k"]
 d1:bv K mg "_law_number" (top 34) ["_law_script","_law_k","_law_top"]
 d2:bv K mg "_law_height" (top 35) ["_law_script","_law_k","_law_kind","_law_row","_law_column"]
 d3:bv K mg "_law_floor" (top 36) ["_law_script","_law_most"]
 d4:bv K mg "floor_of" (top 8) ["size","heights"]
 d5:bv K mg "size_of" (top 2) ["floor"]
 d6:bv K mg "all_cells" (top 6) ["floor"]
 d7:bv K mg "height_of" (top 5) ["floor","cell"]
 d8:bv K mg "heights_by_number" (top 7) ["floor"]
 d9:bv K mg "copy_of" (top 30) ["floor"]
 d10:tH K mg "Land" CL "Land.__init__" jg pl0 4
 d11:bv K mg "_law_keys" (top 37) ["_law_floor_here"]
 d12:bv K mg "_law_near" (top 38) ["_law_floor_here","_law_reach","_law_cell"]
 d13:bv K mg "_law_tree" (top 42) ["_law_floor_here","_law_reach"]
 d14:bG K CL "floor_now" "Land.floor_now" (inClass (top 31) 1) ["self"]
 d15:bv K mg "order_key" (top 10) ["floor","cell"]
 d16:kN K mg "in_order" (top 13) ["floor"] (nat_lit 100)
 e16:LamAt K mg base (nat_lit 100) (nat_lit 96) "in_order"
 d17:mT K mg "Meetings" CM "Meetings.__init__" gB ["self","floor"]
 d18:mT K mg "Water" CW "Water.__init__" iM ["self","floor","reach"]
 d19:bv K mg "neighbours" (top 3) ["size","reach","cell"]
 d20:bG K CW "homes_around" "Water.homes_around" (inClass (top 21) 2) ["self","cell"]
 d21:bG K CM "living" "Meetings.living" (inClass (top 20) 1) ["self","start"]
 d22:kN K mg "earliest_of" (top 12) ["floor","cells"] (nat_lit 93)
 e22:LamAt K mg base (nat_lit 93) (nat_lit 89) "earliest_of"
 d23:bG K CM "let_meet" "Meetings.let_meet" gC ["self","starts","meet"]
 d24:bG K CW "let_come" "Water.let_come" iN ["self","cell"]
 d25:bv K mg "water_over" gN ["floor","reach","cells"]
 d26:bG K CM "tree" "Meetings.tree" (inClass (top 20) 3) ["self","starts"]
 d27:bv K mg "tree_of" (top 23) ["floor","reach"]
 d28:bG K CL "lakes" "Land.lakes" (inClass (top 31) 2) ["self"]
 d29:bv K mg "on_rim" (top 4) ["size","cell"]
 d30:mT K mg "RimWater" CR "RimWater.__init__" cJ ["self","floor","reach"]
 d31:bG K CR "opens" "RimWater.opens" (inClass (top 16) 2) ["self","cell","height"]
 d32:bG K CR "new_beside" "RimWater.new_beside" fO ["self","cell"]
 d33:bG K CR "rise_to" "RimWater.rise_to" ia ["self","height"]
 d34:bv K mg "risen_over" gO ["floor","reach","heights"]
 d35:bv K mg "heights_in" (top 9) ["floor"]
 d36:bv K mg "filled" (top 18) ["floor","reach"]
 d37:bG K CL "levels" "Land.levels" (inClass (top 31) 5) ["self"]
 d38:bv K mg "_law_whole" (top 39) ["_law_found","_law_due"]
 d39:bv K mg "_law_numbers" (top 40) ["_law_found","_law_due"]
 d40:bv K mg "_law_floors" (top 46) ["_law_found","_law_due"]
 d41:bv K mg "_law_tuples" (top 41) ["_law_found","_law_due"]
 d42:bv K mg "_law_height_asked" (top 44) ["_law_floor_here","_law_number_here"]
 d43:bv K mg "_law_labels" (top 43) ["_law_floor_here","_law_reach","_law_height_here"]
 d44:bv K mg "covered_at" (top 14) ["floor","height"]
 d45:bG K CW "start_now" "Water.start_now" (inClass (top 21) 1) ["self","cell"]
 d46:bv K mg "lakes_at" (top 24) ["floor","reach","height"]
 d47:bG K CL "lake" "Land.lake" (inClass (top 31) 3) ["self","cell","height"]
 d48:bv K mg "comes_before" (top 11) ["floor","one","other"]
 d49:bv K mg "ways_back" (top 26) ["floor","reach","cell","last"]
 d50:bv K mg "stretch_under" (top 27) ["floor","reach","cell","last"]
 d51:bv K mg "stretches_at" (top 28) ["floor","reach","height"]
 d52:bG K CL "many_at" "Land.many_at" (inClass (top 31) 4) ["self","height"]
 d53:bv K mg "_law_asked" (top 45) ["_law_land","_law_floor_here","_law_reach","_law_script","_law_k"]
class Cx[Kn:Kon] where
 P:W7
 w:WB
 K:Z1
 mg:Str->Option Wx
 base:WD
 al:Al K mg base
section
variable [Kn:Kon][Cx]
open Cx
def B:Blt mg:=al.B
def kM:MK K CM:=al.kM
def kW:WK K CW:=al.kW
def kR:RK K CR:=al.kR
def kL:LK K CL:=al.kL
local macro_rules|`(tactic| o_reads)=>`(tactic| first|rfl|(simp only[Pu.bs];done)|(simp only[Pu.bs,rV];done))
local macro_rules|`(tactic| o_shape)=>`(tactic| (constructor<;>first|rfl|decide +kernel))
local macro_rules|`(tactic| o_readsAll)=>`(tactic| (refine⟨rfl,by decide +kernel,by decide +kernel,rfl,?_,rfl⟩;repeat' first|trivial|rfl|exact Or.inl rfl|exact Or.inr rfl|constructor))
def cX{X:L2.Cx}{a b:WC}{p:Pos}{ta tb:TE}(ha:PE X a ta)(hb:PE X b tb)(h:autoParam (X.K=Cx.K) cV._auto_1)(hs:sA b:=by exact λx x=>rfl):PE X (.Subscript a b p) (iQ (wt Cx.K) ta tb):=pe_ix (Bl h) ha hb hs
def ib{X:L2.Cx}{a b:WC}{p:Pos}{ta tb:TE}(ha:PE X a ta)(hb:PE X b tb)(h:autoParam (X.K=Cx.K) cV._auto_1)(hs:sA b:=by exact λx x=>rfl):PE X (.Subscript a b p) (iQ (wu Cx.K) ta tb):=pe_ix (ix_tupK h) ha hb hs
def gr{X:L2.Cx}{e:WC}{te:TE}{p q:Pos}(he:PE X e te)(h:autoParam (X.K=Cx.K) cV._auto_1)(hm:autoParam (X.mg=Cx.mg) cV._auto_1)(hg:autoParam (Gl X "len") cV._auto_1)(hs:autoParam (X5 [e] X.env=[(We,WF e X.env)]) cV._auto_1):PE X (.Call (.Name "len" p) [e] [] q) (qV (rLen Cx.K)<|aK te bL):=aP (zB h) hg (hm▸B.len) Bh (af he hs) (by decide) (by decide) hs
def dX{X:L2.Cx}{e:WC}{f:Str}{p:Pos}{te:TE}(he:PE X e te)(h:autoParam (X.K=Cx.K) cV._auto_1)(hb:autoParam (J5 e f X.env (WF e X.env)=WF e X.env) cV._auto_1):PE X (.Attribute e f p) (gD Cx.K te f):=pe_fldK h he hb
def dt{X:L2.Cx}{a l:WC}{tl:TE}(hl:PE X l tl)(h:autoParam (X.K=Cx.K) cV._auto_1):PI X a l (lz Cx.K tl):=Bn h hl
def CS:FnScope ["_law_script","_law_floor_here","_law_reach","_law_handed","_law_land","_law_due","_law_held","_law_k","_law_now","_law_tree_here","_law_levels","_law_one","#_law_handed","#_law_now","#_law_levels"] ["_law_script"] (ao mz):=by o_shape
def jb:iu P w K mg base 1 "_law_cell_at" ["_law_script","_law_k"] (nD (ay (mH K)<|bo a7) a7 λx=>gJ x.1 x.2) :=
 al.d0.q eW ["_law_script","_law_k"] λnd hr hu=>⟨_,(a9 (cC (aZ xT (pv 1) (gr<|pv 0)<|aY _)
   (ak<|aC<|cX (pv 0)<|pv 1)
   bc)
   (ak<|aC aj)),
  λa=>BV.cast (cD (c5<|ev_lt aI<|dB sq_s aA)
  (cI<|b9<|bu sq_s aA aI)
  (be<|b9 aq)) (by unfold gJ;o_reads)⟩
def iO:iu P w K mg base 2 "_law_number" ["_law_script","_law_k","_law_top"] (nD (ay (mH K)<|ay a7<|bo a7) a7 λx=>dS x.1 x.2.1 x.2.2) :=
 al.d1.q eW ["_law_script","_law_k","_law_top","_law_cell","_law_high","_law_low"] λnd hr hu=>⟨_,(a9 (av 3<|az dk (ar jb<|aa (pv 0)<|af<|pv 1)<|az kC aj aj)
   (a9 (av 4<|az dk (az bq (az dz (pv 3) aj)<|az dz (az dz (az bq (pv 1) aj)<|az bq (pv 1) aj) aj) aj)
   (a9 (av 5<|az dk (az bq (az bq (az dz (pv 3) aj)<|az dz (az dz (pv 1)<|pv 1) aj) aj) aj)
   (ak<|aC<|az dk (az bq (az dz (pv 4) aj)<|pv 5)<|az bq (pv 2) aj)))),
  λa=>BV.cast (aG 3 (ft (aF<|am aA<|au aI) (iY (v:=100000000000000000000) aq aq (by decide)) (by decide)) λcell2=>(aG 4 (ft (br (jR de aq (by decide))<|jR (iy (br aI aq)<|br aI aq) aq (by decide)) aq (by decide)) λhigh7=>(aG 5 (ft (br (br (jR de aq (by decide))<|jR (iy aI aI) aq (by decide)) aq) aq (by decide)) λlow13=>(b9<|js (br (jR cF aq (by decide)) eA)<|br bp aq)))) (by unfold dS;o_reads)⟩
def Au:iu P w K mg base 3 "_law_height" ["_law_script","_law_k","_law_kind","_law_row","_law_column"] (nD (ay (mH K)<|ay a7<|ay a7<|ay a7<|bo a7) a7 λx=>cU x.1 x.2.1 x.2.2.1 x.2.2.2.1 x.2.2.2.2) :=
 al.d2.q eW ["_law_script","_law_k","_law_kind","_law_row","_law_column","_law_nest"] λnd hr hu=>⟨_,(a9 (cC (aZ jn (pv 2) aj<|aY _)
   (@a9 _ _ _ _ _ (@AE _ _ 5 _ _ _ _ nd rfl (Or.inl rfl) (@cL _ _ _ _<|@pa_ints _ _ [0,1,0,2,0,1,0,3,0,1,0,2] rfl) rfl<|Or.inl rfl)
   (ak<|aC<|az bq (az dz aj<|az bq (cX (pv 5)<|pv 3)<|cX (pv 5)<|pv 4)<|ar iO<|aa (pv 0)<|aa (pv 1)<|af aj))
   bc)
   (a9 (cC (aZ jn (pv 2) aj<|aY _)
   (ak<|aC<|az bq (az bq (az dz aj<|aP oP (by rfl) B.abs wF<|af<|az ir (pv 3) aj)<|az dz aj<|az dk (az bq (pv 3)<|pv 4) aj)<|ar iO<|aa (pv 0)<|aa (pv 1)<|af aj)
   bc)
   (ak<|aC<|ar iO<|aa (pv 0)<|aa (pv 1)<|af<|cX (cL<|aa aj<|aa aj<|af<|az kC aj aj)<|pv 2))),
  λa=>BV.cast (cD (c5<|hE ik bp aq)
  (eL (aG 5 ((Cg [0,1,0,2,0,1,0,3,0,1,0,2] (by decide))).ev λnest1=>(cI<|b9<|br (pA aq (br (bu aJ eA de)<|bu aJ eA cF) (by decide))<|aF<|am aA<|am aI<|au aq)))
  (be (cD (c5<|hE ik bp aq)
  (cI<|b9<|br (br (pA aq (wM<|iw de aq) (by decide))<|pA aq (ft (br de cF) aq (by decide)) (by decide))<|aF<|am aA<|am aI<|au aq)
  (be<|b9<|EV.cast (aF<|am (ai 0 rfl)<|am (ai 1 rfl)<|au<|bu aJ ((cf<|bg aq<|bg aq<|bg (iY (v:=1000000000000000000) aq aq (by decide)) ce)).ev (ai 2 rfl)) as3)))) (by unfold cU;first|(simp only[Pu.bs];done)|(simp only[Pu.bs,rV];done)|(simp only[Pu.bs,rV];rfl))⟩
def CT:iu P w K mg base 4 "_law_floor" ["_law_script","_law_most"] (pf (ay (mH K)<|bo a7) (rL a7) λx=>jB x.1 x.2) :=
 al.d3.q fL ["_law_script","_law_most","_law_head","_law_columns","_law_rows","_law_kind","_law_floor_here","_law_row","_law_at"] λnd hr hu=>⟨_,(a9 (av 2<|ar jb<|aa (pv 0)<|af aj)
   (a9 (av 3<|az bq aj<|az dk (pv 2) aj)
   (a9 (av 4<|aP (iB rfl) (by rfl) B.max p9<|aa aj<|af<|aP (iC rfl) (by rfl) B.min kI<|aa aj<|af<|az eJ (az ir (az bq (gr<|ui (uC (K:=K) rfl) (pv 0) (o7 aj)<|o7 aj)<|pv 3) aj)<|pv 3)
   (a9 (cC (aZ jn (az dk (az eJ (pv 2) aj) aj) aj<|aY _)
   (ak<|av 4 aj)
   bc)
   (a9 (av 4<|aP (iC rfl) (by rfl) B.min kI<|aa (pv 4)<|af<|aP (iB rfl) (by rfl) B.max p9<|aa aj<|af<|az eJ (pv 1)<|pv 3)
   (a9 (av 5<|az dk (az eJ (pv 2) aj) aj)
   (a9 (av 6<|cL eQ)
   (a9 (c0 X9 rfl (jK rfl B.range<|af<|pv 4) (aw 7)
   (a9 (av 8<|az bq aj<|az dz (pv 7)<|pv 3)
   (ak<|cZ<|gq (K:=K) rfl W6 T2 T3 cM (pv 6)<|af (cb (loc:=["_law_column"]) (cap:=[("_law_script",0),("_law_at",8),("_law_kind",5),("_law_row",7)]) rfl (by o_readsAll)  (jK rfl B.range<|af<|pv 3) (λb b b b=>(aw 0)) (λb b b b=>bQ) λb b b b=>(ar Au<|aa (pv 1)<|aa (az bq (pv 2)<|pv 0)<|aa (pv 3)<|aa (pv 4)<|af<|pv 0)))))
   (ak<|aC<|pv 6))))))))),
  λa=>BV.cast (aG 2 (aF<|am aA<|au aq) λhead1=>(aG 3 (br aq<|ft bp aq (by decide)) λcolumns3=>(aG 4 (lO aq<|lN aq<|iX (iw (br (dB aJ ((yn sq_s (ai 0 rfl) (oo aq)<|oo aq)).ev) de) aq) de) λrows6=>(yt (Γj:=λ(s8:Int)=>[.fr (mH K) (a.1),.fr a7 (a.2),.fr a7 (head1),.fr a7 (columns3),.fr a7 (s8),.any,.any,.any,.any]) (aU (cD (c5<|hE ik (ft (lW bp aq (by decide)) aq (by decide)) aq)
  (aG 4 aq λrows9=>(lQ (rows9)<|dJ<|fj<|aQ<|aQ<|aQ<|aQ .nil))
  (be<|lQ (rows6)<|dJ<|fj<|aQ<|aQ<|aQ<|aQ .nil))) λs8=>(aG 4 (lN cF<|lO aq<|iX aI de) λrows12=>(aG 5 (ft (lW bp aq (by decide)) aq (by decide)) λkind14=>(dO 6 (cf (r:=(rL a7)) ce) λfloor_here15=>(cw (Γf:=λ(s17:(List<|List<|Int))=>[.fr (mH K) (a.1),.fr a7 (a.2),.fr a7 (head1),.fr a7 (columns3),.fr a7 (rows12),.fr a7 (kind14),.ol (rL a7) jj (s17),.any,.any]) (floor_here15) (oq cF) (dJ<|gA<|fj<|aQ<|aQ .nil) (λb=>(aH 7))
  (λs17 x16=>(aG 8 (br aq<|iy gf de) λat19=>(aU (dh 6 rfl ((cu (oq<|ai 3 rfl) (by decide) (by decide) (aH 0) λy21=>(aF<|am (ai 1 rfl)<|am (br (ai 2 rfl)<|ai 0 rfl)<|am (ai 3 rfl)<|am (ai 4 rfl)<|au<|ai 0 rfl))).ev λfloor_here23=>(aW (floor_here23)<|dJ<|gA<|fj<|aQ<|aQ .nil)))))
  λs17=>(lS 6 rfl))))))))) (by unfold jB;o_reads)⟩
def nL:iu P w K mg base 1 "floor_of" ["size","heights"] (spG (ay (ga a7 a7)<|bo<|rL a7) rNN λx=>i5 x.1 x.2) :=
 al.d4.q vz ["size","heights","columns"] λnd hr hu=>⟨_,(a9 (av 2<|ib (pv 0) aj)
   (ak<|aC (cb (loc:=["row"]) (cap:=[("heights",1),("columns",2)]) rfl (by o_readsAll)  (jK rfl B.range<|af<|ib (pv 0) aj) (λa a a a=>(aw 0)) (λa a a a=>bQ) λa a a a=>(ui (uC (K:=K) rfl) (pv 1) (o7<|az dz (pv 0)<|pv 2)<|o7<|az dz (az bq (pv 0) aj)<|pv 2)))),
  λa=>BV.cast (aG 2 (cr aA) λcolumns1=>(m8 (uY C1 (oq<|jO aA) (by decide) (by decide) (aH 0) λy2=>(evg_l yE<|yn aJ aI (oo<|iy aA bp)<|oo<|iy (br aA aq) bp)))) (by unfold i5;o_reads)⟩
def dI:iu P w K mg base 1 "size_of" D0 (nD (bo<|rL<|rL a7) (ga a7 a7) λx=>size_of x) :=
 al.d5.q eW ["floor","columns"] λnd hr hu=>⟨_,(a9 (av 1<|oJ (o9 (K:=K) rfl (pv 0) λa=>rfl) (gr<|cX (pv 0) aj) aj)
   (ak<|aC<|gp<|aa (gr<|pv 0)<|af<|pv 1)),
  λa=>BV.cast (aG 1 (Bs (om aJ aA) (dB aJ<|bu aJ aA aq) aq) λcolumns2=>(b9<|gH (dB aJ aA) aI)) (by unfold size_of;o_reads)⟩
def dY:iu P w K mg base 2 "all_cells" D0 (pf (bo<|rL<|rL a7) a7 λx=>di x) :=
 al.d6.q fL ["floor","size"] λnd hr hu=>⟨_,(a9 (av 1<|ar dI<|af<|pv 0)
   (ak<|aC<|df (xf rfl) (by rfl) B.list_ fY<|af<|pe_rng (az dz (ib (pv 1) aj)<|ib (pv 1) aj) rfl B.range)),
  λa=>BV.cast (aG 1 (aF<|au aA) λsize1=>(dq<|uP<|iy (jO aI)<|cr aI)) (by unfold di;o_reads)⟩
def gP:iu P w K mg base 2 "height_of" ["floor","cell"] (nD (ay (rL<|rL a7)<|bo a7) a7 λx=>eX x.1 x.2) :=
 al.d7.q eW ["floor","cell","columns"] λnd hr hu=>⟨_,(a9 (av 2<|ib (ar dI<|af<|pv 0) aj)
   (ak<|aC<|cX (cX (pv 0)<|az eJ (pv 1)<|pv 2)<|az dk (pv 1)<|pv 2)),
  λa=>BV.cast (aG 2 (cr<|aF<|au aA) λcolumns2=>(b9<|bu aJ (bu aJ aA<|iX aI bp)<|js aI bp)) (by unfold eX;o_reads)⟩
def gm:iu P w K mg base 3 "heights_by_number" D0 (pf (bo<|rL<|rL a7) a7 λx=>bD x) :=
 al.d8.q fL D0 λnd hr hu=>⟨_,(ak<|aC (cb (loc:=["cell"]) (cap:=[("floor",0)]) rfl (by o_readsAll)  (dt<|ar dY<|af<|pv 0) (λa a a a=>(aw 0)) (λa a a a=>bQ) λa a a a=>(ar gP<|aa (pv 1)<|af<|pv 0))),
  λa=>BV.cast (dq (cu (aM aJ ((aR<|au<|ai 0 rfl)).ev) (by decide) (by decide) (aH 0) λy1=>(aF<|am aI<|au aA))) (by unfold bD;o_reads)⟩
def qh:iu P w K mg base 4 "copy_of" D0 (spG (bo<|rL<|rL a7) rNN λx=>jX x) :=
 al.d9.q vz D0 λnd hr hu=>⟨_,(ak<|aC<|ar nL<|aa (ar dI<|af<|pv 0)<|af<|ar gm<|af<|pv 0),
  λa=>BV.cast (m8<|nV.cast (iF<|am (aF<|au aA)<|au ((aR<|au<|ai 0 rfl)).ev) as2) (by unfold jX;o_reads)⟩
def iP :HasL P w K mg base 5 "Land" CL pl0 4 (Ci CL λx=>mf x):=by
 have sc:FnScope pl0 pl0 (ao jg):=by o_shape
 have nd:=sc.nd;refine al.d10.has sc (λvs H Q E h=>?_) λf ZP A outer s H vs Q E hr h=>?_
 ·obtain⟨F,x,dx,vf,ZZ,Wf,fl,rfl,_⟩:=h;rfl
 ·have hu:=jd hr;exact⟨_,a9 (gn (pv 0) (ar qh<|af<|pv 1) rfl)<|ak<|gn (pv 0) (pv 2) rfl,
   init_L kL (λZZ Wf=>(show nV _ _ _ _ from iF<|au<|ai 1 rfl).cast (by unfold mf;simp only[Pu.bs])) rfl h⟩
def yW:iu P w K mg base 1 "_law_keys" ["_law_floor_here"] (pf (bo<|rL<|rL a7) (ga a7 a7) λx=>j8 x) :=
 al.d11.q fL ["_law_floor_here","_law_heights","_law_row"] λnd hr hu=>⟨_,(a9 (av 1<|cL eQ)
   (a9 (c0 X9 rfl (dt<|pv 0) (aw 2)
   (ak<|av 1<|az op_catS (pv 1)<|pv 2))
   (ak<|aC (cb (loc:=["_law_cell","_law_height_here"]) (cap:=[]) rfl (by o_readsAll)  (Bo (K:=K) rfl rfl B.enumerate<|af<|pv 1) (λb b b b=>(lJ (K:=K) (n:=2) rfl rfl<|eE (aw 0)<|eE (aw 1) lh)) (λb b b b=>bQ) λb b b b=>(gp<|aa (pv 1)<|af<|pv 0))))),
  λa=>BV.cast (aG 1 ((cf (r:=a7) ce)).ev λheights1=>(cw (Γf:=λ(s3:(List<|Int))=>[.fr (rL<|rL a7) (a),.fr (rL a7) (s3),.any]) (heights1) (aM aJ aA) (gA<|aQ .nil) (λb=>(aH 2))
  (λs3 x2=>(aU (aG 1 ((evl_cat (ai 1 rfl)<|ai 2 rfl)).ev λheights4=>(aW (heights4)<|gA<|aQ .nil))))
  λs3=>(dq (cu (iv_enum aJ aI) (by decide) (by decide) (lP 0 1) λy6=>(gH aI aA))))) (by unfold j8;o_reads)⟩
def yX:iu P w K mg base 1 "_law_near" ["_law_floor_here","_law_reach","_law_cell"] (pf (ay (rL<|rL a7)<|ay a7<|bo a7) a7 λx=>g8 x.1 x.2.1 x.2.2) :=
 al.d12.q fL ["_law_floor_here","_law_reach","_law_cell","_law_rows","_law_columns","_law_row","_law_column","_law_found","_law_down","_law_right","_law_straight","_law_inside"] λnd hr hu=>⟨_,(a9 (AF rfl nd rfl rfl (by decide) rfl rfl (aa (gr<|pv 0)<|af<|gr<|cX (pv 0) aj) rfl)
   (a9 (AF rfl nd rfl rfl (by decide) rfl rfl (aa (az eJ (pv 2)<|pv 4)<|af<|az dk (pv 2)<|pv 4) rfl)
   (a9 (av 7<|cL eQ)
   (a9 (c0 X9 rfl (dt<|cL<|aa (xP sk aj)<|aa aj<|af aj) (aw 8)
   (ak (c0 X9 rfl (dt<|cL<|aa (xP sk aj)<|aa aj<|af aj) (aw 9)
   (a9 (av 10<|fX nn (fX jn (pv 8) aj<|aY _) (fX jn (pv 9) aj<|aY _)<|aY _)
   (a9 (av 11<|sj (ue oM xT aj (az bq (pv 5)<|pv 8)<|pv 3)<|sh<|ue oM xT aj (az bq (pv 6)<|pv 9)<|pv 4)
   (ak (cC (PW.pt<|mE (cK<|pv 11)<|l8<|PW.pt<|kg (cK<|pv 10)<|jm<|PW.pt<|mE (aZ jn (pv 1) aj<|aY _)<|mE (aZ nn (pv 8) aj<|aY _)<|l8<|aZ nn (pv 9) aj<|aY _)
   (ak<|cZ<|gq (K:=K) rfl W6 T2 T3 cM (pv 7)<|af<|az bq (az bq (pv 2)<|az dz (pv 8)<|pv 4)<|pv 9)
   bc)))))))
   (ak<|aC<|pv 7))))),
  λa=>BV.cast (Ce 3 4 (dB aJ aA) (dB aJ<|bu aJ aA aq) λrows2 columns3=>(Ce 5 6 (iX bp cF) (js bp cF) λrow5 column6=>(dO 7 (cf (r:=a7) ce) λfound8=>(cw (Γf:=λ(s10:(List<|Int))=>[.fr (rL<|rL a7) (a.1),.fr a7 (a.2.1),.fr a7 (a.2.2),.fr a7 (rows2),.fr a7 (columns3),.fr a7 (row5),.fr a7 (column6),.ol a7 jj (s10),.any,.any,.any,.any]) (found8) (aM aJ ((cf<|bg (wH aq)<|bg aq<|bg aq ce)).ev) (dJ<|dJ<|aQ<|aQ<|aQ<|aQ .nil) (λb=>(aH 8))
  (λs10 x9=>(aU (cw (Γf:=λ(s12:(List<|Int))=>[.fr (rL<|rL a7) (a.1),.fr a7 (a.2.1),.fr a7 (a.2.2),.fr a7 (rows2),.fr a7 (columns3),.fr a7 (row5),.fr a7 (column6),.ol a7 jj (s12),.fr a7 (x9),.any,.any,.any]) (s10) (aM aJ ((cf<|bg (wH aq)<|bg aq<|bg aq ce)).ev) (dJ<|dJ<|fj<|aQ<|aQ<|aQ .nil) (λb=>(aH 9))
  (λs12 x11=>(aG 10 (jt sc_bb (hE ik i0 aq)<|hE ik (ai 9 rfl) aq) λstraight13=>(aG 11 (t8 (mP aq (br eA i0) de)<|mP aq (br jy<|ai 9 rfl) cF) λinside15=>(aU (cD (t6 (gG<|ai 11 rfl)<|mO (gG<|ai 10 rfl)<|t6 (c5<|hE ik aI aq)<|t6 (c5<|jt ik i0 aq)<|c5<|jt ik (ai 9 rfl) aq)
  (dh 7 rfl (br (br bp<|iy i0 cF)<|ai 9 rfl) λfound19=>(aW (found19)<|dJ<|dJ<|fj<|aQ<|aQ<|aQ .nil))
  (be<|aW (s12)<|dJ<|dJ<|fj<|aQ<|aQ<|aQ .nil))))))
  λs12=>(aW (s12)<|dJ<|dJ<|aQ<|aQ<|aQ<|aQ .nil))))
  λs10=>(lS 7 rfl))))) (by unfold g8;o_reads)⟩
def ok_tree:iu P w K mg base 2 "_law_tree" ["_law_floor_here","_law_reach"] (pf (ay (rL<|rL a7)<|bo a7) (qp a7 (b8 a7)<|b8 a7) λx=>mi x.1 x.2) :=
 al.d13.q fL ["_law_floor_here","_law_reach","_law_keys_here","_law_labels_here","_law_ends","_law_starts","_law_height_here","_law_cell","_law_near_here","_law_eldest","_law_start"] λnd hr hu=>⟨_,(a9 (av 2<|ar yW<|af<|pv 0)
   (a9 (av 3 (cb (loc:=["_law_key"]) (cap:=[]) rfl (by o_readsAll)  (dt<|pv 2) (λh h h h=>(aw 0)) (λh h h h=>bQ) λh h h h=>eC))
   (a9 (av 4 jp)
   (a9 (av 5<|cL eQ)
   (a9 (c0 X9 rfl (dt<|aP (pF (K:=K) rfl) (by rfl) B.sorted gT<|af<|pv 2) (lJ (K:=K) (n:=2) rfl rfl<|eE (aw 6)<|eE (aw 7) lh)
   (a9 (fP (loc:=["_law_other"]) (cap:=[("_law_labels_here",3)]) (i:=8) rfl (by o_readsAll) nd rfl (Or.inl rfl) (dt<|ar yX<|aa (pv 0)<|aa (pv 1)<|af<|pv 7) (λh h h h=>(aw 0)) (λh h h h=>(g9<|aZ su (cX (pv 1)<|pv 0) eC<|aY _)) λh h h h=>(cX (pv 1)<|pv 0))
   (a9 (cC (aZ (op_eqDK (K:=K) rfl hr.units) (pv 8) (cL eQ)<|aY _)
   (a9 (cZ<|gq (K:=K) rfl W6 T2 T3 cM (pv 5)<|af<|pv 7)
   (a9 (kB (pv 7)<|kA (pv 3) (pv 7) set_list)
   (ak u7)))
   bc)
   (a9 (av 9<|ib (aP (A9 (K:=K) rfl rfl<|jd hr) (by rfl) B.min kI<|af (cb (loc:=["_law_start"]) (cap:=[("_law_keys_here",2)]) rfl (by o_readsAll)  (dt<|pv 8) (λh h h h=>(aw 0)) (λh h h h=>bQ) λh h h h=>(cX (pv 1)<|pv 0))) aj)
   (a9 (kB (pv 9)<|kA (pv 3) (pv 7) set_list)
   (ak (c0 X9 rfl (dt<|pv 8) (aw 10)
   (ak (cC (aZ nn (pv 10) (pv 9)<|aY _)
   (a9 (iU hu (pv 4) (pv 10) (gp<|aa (pv 7)<|af<|pv 9) rfl)
   (ak<|av 3 (cb (loc:=["_law_label"]) (cap:=[("_law_eldest",9),("_law_start",10)]) rfl (by o_readsAll)  (dt<|pv 3) (λh h h h=>(aw 0)) (λh h h h=>bQ) λh h h h=>(cX (cL<|aa (pv 0)<|af<|pv 1)<|df za (by rfl) B.int_ Bi<|af<|fX jn (pv 0) (pv 2)<|aY _))))
   bc)))))))))
   (ak<|aC (cb (loc:=["_law_start"]) (cap:=[("_law_ends",4)]) rfl (by o_readsAll)  (dt<|pv 5) (λh h h h=>(aw 0)) (λh h h h=>bQ) λh h h h=>(az (uV (K:=K) rfl) (gp<|af<|pv 0)<|uu hu (pv 1) (pv 0) (gp<|aa eC<|af eC) ⟨rfl,rfl,rfl,rfl⟩)))))))),
  λa=>BV.cast (aG 2 ((aR<|au<|ai 0 rfl)).ev λkeys_here1=>(dO 3 (cu (aM aJ bp) (by decide) (by decide) (aH 0) λy3=>gF) λlabels_here4=>(sY 4 yv λends6=>(dO 5 (cf (r:=a7) ce) λstarts7=>(cw (Γf:=λ(s9:(List<|Option<|Int)×(List<|Int×((Option<|Int)×(Option<|Int)))×(List<|Int))=>[.fr (rL<|rL a7) (a.1),.fr a7 (a.2),.fr (rL<|ga a7 a7) (keys_here1),.ol (b8 a7) jj (s9.1),.od (ga (b8 a7)<|b8 a7) jj (s9.2.1),.ol a7 jj (s9.2.2),.any,.any,.any,.any,.any]) ((labels_here4,ends6,starts7)) (aM aJ ((rA<|ai 2 rfl)).ev) (dJ<|gA<|aQ<|aQ<|aQ<|aQ<|aQ .nil) (λh=>(lP 6 7))
  (λs9 x8=>(dO 8 (sX 3 rfl (jN cn) (dC (aM aJ ((aR<|am (ai 0 rfl)<|am (ai 1 rfl)<|au<|ai 7 rfl)).ev) (by decide) (by decide) (aH 0) (λy10=>(c5<|sU (bu aJ aI aA) kJ)) λy10=>(bu aJ aI aA))) λnear_here13=>(cD (kK 8 rfl<|c5<|ev_eqD (dL dOp) i0 ((cf (r:=(b8 a7)) ce)).ev)
  (eL (dh 5 rfl gf λstarts15=>(eL (lU 3 rfl gf (cH gf) λlabels_here17=>(bv_seqC<|bv_cont ((labels_here17,s9.2.1,starts15))<|dJ<|gA<|aQ<|aQ<|aQ<|aQ<|aQ .nil)))))
  (be (aG 9 (ev_bor 8 rfl cn<|cr<|ev_minP ((cu (aM aJ<|ai 8 rfl) (by decide) (by decide) (aH 0) λy20=>(bu aJ (ai 1 rfl)<|mJ<|ai 0 rfl))).ev) λeldest24=>(lU 3 rfl gf (cH<|ai 9 rfl) λlabels_here26=>(aU (C0 (Γf:=λ(p30:Wy) (s30:(List<|Option<|Int)×(List<|Int×((Option<|Int)×(Option<|Int))))=>[.fr (rL<|rL a7) (a.1),.fr a7 (a.2),.fr (rL<|ga a7 a7) (keys_here1),.ol (b8 a7) jj (s30.1),.od (ga (b8 a7)<|b8 a7) jj (s30.2),.ol a7 jj (s9.2.2),.fr a7 (x8.1),.fr a7 (x8.2),.ol (b8 a7) (λb=>b=p30) (near_here13),.fr a7 (eldest24),.any]) ((labels_here26,s9.2.1)) 8 rfl (λp30=>(dJ<|dJ<|gA<|aQ .nil)) (λh h=>rfl) (λh h=>(aH 10))
  (λp30 s30 x29=>(aU (cD (c5<|jt sc_oi (ai 10 rfl)<|ai 9 rfl)
  (eL (wQ 4 rfl (mJ<|ai 10 rfl) (gH (cH gf)<|cH<|ai 9 rfl) λends31=>(dO 3 (sX 3 rfl (jN cn) (cu (aM aJ de) (by decide) (by decide) (aH 0) λy34=>(bu aJ ((cf<|bg (ai 0 rfl)<|bg (cH<|ai 1 rfl) ce)).ev (ev_intB<|hE sc_oo aA bp)))) λlabels_here35=>(aW ((labels_here35,ends31))<|dJ<|dJ<|gA<|aQ .nil))))
  (be<|aW ((s30.1,s30.2))<|dJ<|dJ<|gA<|aQ .nil))))
  λp30 s30=>(aW ((s30.1,s30.2,s9.2.2))<|dJ<|gA<|aQ<|aQ<|aQ<|aQ<|aQ .nil)))))))))
  λs9=>(dq<|sX 5 rfl (yg cn (jN cn)<|jN cn)<|By 4 rfl (yg cn (jN cn)<|jN cn) (cu (aM aJ eA) (by decide) (by decide) (aH 0) λy38=>(uT (yl aA)<|uS aI aA<|gH gF gF)))))))) (by unfold mi;o_reads)⟩
def mB:ii P w K mg base 5 CL "floor_now" ["self"] (spG (bo<|i3 CL) rNN λx=>i7 x) :=
 al.d14.q vz ["self"] λnd hr hu=>⟨_,(ak<|aC<|ar qh<|af<|dX<|pv 0),
  λa=>BV.cast (m8<|iF<|au<|i4 kL aA) (by unfold i7;o_reads)⟩
def gQ:iu P w K mg base 3 "order_key" ["floor","cell"] (nD (ay (rL<|rL a7)<|bo a7) (ga a7 a7) λx=>cQ x.1 x.2) :=
 al.d15.q eW ["floor","cell"] λnd hr hu=>⟨_,(ak<|aC<|gp<|aa (ar gP<|aa (pv 0)<|af<|pv 1)<|af<|pv 1),
  λa=>BV.cast (b9<|gH (aF<|am aA<|au aI) aI) (by unfold cQ;o_reads)⟩
def nO :iu P w K mg base 7 "in_order" D0 (pf (bo<|rL<|rL a7) a7 λx=>dF x) :=
 al.d16.q fL D0 λnd hr hu=>⟨_,(ak<|aC<|BP (x:="cell") (cap:=[("floor",0)]) (ar dY<|af<|pv 0) (hr.mono (by decide)) B.sorted al.e16.bm al.e16.hd al.e16.mem al.e16.nm rfl ⟨rfl,rfl,rfl,by decide +kernel,rfl,rfl,⟨⟨rfl,rfl,by first|exact Or.inl rfl|exact Or.inr rfl⟩,trivial⟩⟩ (λa a a a a=>rfl) (λa a a a a=>have hl:=(hr.mono (j:=6) (by decide)).in1.in1.deeper _;(p8 gQ (hl.mono (by decide)) rfl<|aa (pv 1)<|af<|pv 0))),
  λa=>BV.cast (dq (zO (x:="cell") (by decide) ((aR<|au<|ai 0 rfl)).ev λc1=>(aF<|am aI<|au aA))) (by unfold dF;o_reads)⟩
def jG :BZ P w K mg base 1 "Meetings" CM ["self","floor"] (spIM CM):=by
 have sc:FnScope ["self","floor"] ["self","floor"] (ao gB):=by o_shape
 refine al.d17.has sc (λvs H Q E h=>?_) λf ZP A outer s H vs Q E hr h=>?_
 ·exact oq32 h λx x x e x=>congrArg F6 e
 ·exact⟨_,a9 (gn (pv 0) (pv 1) rfl)<|ak<|gn (pv 0) jp rfl,init_M kM rfl h⟩
def mC :BZ P w K mg base 4 "Water" CW pl0 (spIW CM CW λx=>jW x):=by
 have sc:FnScope pl0 pl0 (ao iM):=by o_shape
 refine al.d18.has sc (λvs H Q E h=>?_) λf ZP A outer s H vs Q E hr h=>?_
 ·exact oq72 h λa a a a a a a e a=>congrArg F6 e
 ·exact⟨_,a9 (gn (pv 0) (pv 1) rfl) (a9 (gn (pv 0) (pv 2) rfl) (a9 (gn (pv 0) (cb (loc:=["cell"]) (cap:=[]) rfl (by o_readsAll) (dt<|ar dY<|af<|pv 1) (λa a a a=>(aw 0)) (λa a a a=>bQ) λa a a a=>eC) rfl)
   (ak<|gn (pv 0) (pJ jG (hr.mono (by decide)) rfl<|af<|pv 1) rfl))),
   init_W kW (λZZ Wf=>(show iR _ _ _ _ from cu (aM aJ (aR<|au<|ai 1 rfl).ev) (by decide) (by decide) (aH 0) λy=>gF).cast (by unfold jW;simp only[Pu.bs])) rfl h⟩
def iA:iu P w K mg base 1 "neighbours" ["size","reach","cell"] (pf (ay (ga a7 a7)<|ay a7<|bo a7) a7 λx=>eU x.1 x.2.1 x.2.2) :=
 al.d19.q fL ["size","reach","cell","row","column","most_steps","found","other_row","other_column"] λnd hr hu=>⟨_,(a9 (av 3<|az eJ (pv 2)<|ib (pv 0) aj)
   (a9 (av 4<|az dk (pv 2)<|ib (pv 0) aj)
   (a9 (av 5<|oJ (aZ jn (pv 1) aj<|aY _) aj aj)
   (a9 (av 6<|cL eQ)
   (a9 (c0 X9 rfl (qT rfl B.range<|aa (aP (iB rfl) (by rfl) B.max p9<|aa aj<|af<|az ir (pv 3) aj)<|af<|aP (iC rfl) (by rfl) B.min kI<|aa (ib (pv 0) aj)<|af<|az bq (pv 3) aj) (aw 7)
   (ak (c0 X9 rfl (qT rfl B.range<|aa (aP (iB rfl) (by rfl) B.max p9<|aa aj<|af<|az ir (pv 4) aj)<|af<|aP (iC rfl) (by rfl) B.min kI<|aa (ib (pv 0) aj)<|af<|az bq (pv 4) aj) (aw 8)
   (ak (cC (AK xT oM aj (az bq (aP oP (by rfl) B.abs wF<|af<|az ir (pv 7)<|pv 3)<|aP oP (by rfl) B.abs wF<|af<|az ir (pv 8)<|pv 4)<|pv 5)
   (ak<|cZ<|gq (K:=K) rfl W6 T2 T3 cM (pv 6)<|af<|az bq (az dz (pv 7)<|ib (pv 0) aj)<|pv 8)
   bc)))))
   (ak<|aC<|pv 6)))))),
  λa=>BV.cast (aG 3 (iX bp<|cr aA) λrow1=>(aG 4 (js bp<|cr aA) λcolumn3=>(aG 5 (ev_ifxT (c5<|hE ik aI aq) aq aq) λmost_steps5=>(dO 6 (cf (r:=a7) ce) λfound7=>(cw (Γf:=λ(s9:(List<|Int))=>[.fr (ga a7 a7) (a.1),.fr a7 (a.2.1),.fr a7 (a.2.2),.fr a7 (row1),.fr a7 (column3),.fr a7 (most_steps5),.ol a7 jj (s9),.any,.any]) (found7) (yq (lO aq<|iw de aq)<|lN (jO aA)<|br de aq) (dJ<|gA<|fj<|aQ<|aQ .nil) (λb=>(aH 7))
  (λs9 x8=>(aU (cw (Γf:=λ(s11:(List<|Int))=>[.fr (ga a7 a7) (a.1),.fr a7 (a.2.1),.fr a7 (a.2.2),.fr a7 (row1),.fr a7 (column3),.fr a7 (most_steps5),.ol a7 jj (s11),.fr a7 (x8),.any]) (s9) (yq (lO aq<|iw cF aq)<|lN (cr aA)<|br cF aq) (dJ<|dJ<|aQ .nil) (λb=>(aH 8))
  (λs11 x10=>(aU (cD (c5<|mP aq (br (wM<|iw gf de)<|wM<|iw i0 cF) eA)
  (dh 6 rfl (br (iy gf<|cr aA) i0) λfound13=>(aW (found13)<|dJ<|dJ<|aQ .nil))
  (be<|aW (s11)<|dJ<|dJ<|aQ .nil))))
  λs11=>(aW (s11)<|dJ<|gA<|fj<|aQ<|aQ .nil))))
  λs9=>(lS 6 rfl)))))) (by unfold eU;o_reads)⟩
def jk:ii P w K mg base 2 CW "homes_around" pl2 (pf (ay (rW CM CW)<|bo a7) a7 λx=>bH x.1 x.2) :=
 al.d20.q fL ["self","cell","around"] λnd hr hu=>⟨_,(a9 (av 2<|ar iA<|aa (ar dI<|af<|dX<|pv 0)<|aa (dX<|pv 0)<|af<|pv 1)
   (ak<|aC (cb (loc:=["other"]) (cap:=[("self",0)]) rfl (by o_readsAll)  (dt<|pv 2) (λa a a a=>(aw 0)) (λa a a a=>(g9<|aZ su (cX (dX<|pv 1)<|pv 0) eC<|aY _)) λa a a a=>(cX (dX<|pv 1)<|pv 0)))),
  λa=>BV.cast (aG 2 ((iR.cast (aR<|am (aF<|au<|zR kW<|ai 0 rfl)<|am (zS kW<|ai 0 rfl)<|au<|ai 1 rfl) as3)).ev λaround2=>(dq (dC (aM aJ bp) (by decide) (by decide) (aH 0) (λy4=>(c5<|sU (bu aJ (jT kW aI) aA) kJ)) λy4=>(mJ<|bu aJ (jT kW aI) aA)))) (by unfold bH;o_reads)⟩
def ic:ii P w K mg base 1 CM "living" ["self","start"] (nD (ay (rM CM)<|bo<|b8 a7) (b8 a7) λx=>aV x.1 x.2) :=
 al.d21.q eW ["self","start","here"] λnd hr hu=>⟨_,(a9 (av 2<|pv 1)
   (a9 (lu X9 (sf<|pc_dinO hu (pv 2)<|dX<|pv 0)
   (ak<|av 2<|ib (yb hu (dX<|pv 0) (pv 2) λb b=>rfl) aj))
   (ak<|aC<|pv 2))),
  λa=>BV.cast (aG 2 aI λhere1=>(sZ (Γf:=λ(s2:(Option<|Int))=>[.fr (rM CM) (a.1),.fr (b8 a7) (a.2),.fr (b8 a7) (s2)]) 100000 (here1) (gA<|fj .nil) (λs2=>(gG<|ev_inDO bp<|mS kM aA))
  (λs2=>(aU (aG 2 (cr<|Bw (mS kM aA)<|mJ bp) λhere5=>(aW (here5)<|gA<|fj .nil))))
  λs2=>(b9 bp))) (by unfold aV;o_reads)⟩
def qi :iu P w K mg base 7 "earliest_of" ["floor","cells"] (nD (ay (rL<|rL a7)<|bo<|rL a7) a7 λx=>eY x.1 x.2) :=
 al.d22.q eW ["floor","cells"] λnd hr hu=>⟨_,(ak<|aC<|pe_minK (x:="cell") (cap:=[("floor",0)]) (pv 1) (hr.mono (by decide)) B.min al.e22.bm al.e22.hd al.e22.mem al.e22.nm rfl ⟨rfl,rfl,rfl,by decide +kernel,rfl,rfl,⟨⟨rfl,rfl,by first|exact Or.inl rfl|exact Or.inr rfl⟩,trivial⟩⟩ (λa a a a a=>rfl) (λa a a a a=>have hl:=(hr.mono (j:=5) (by decide)).in1.deeper _;(p8 gQ (hl.mono (by decide)) rfl<|aa (pv 1)<|af<|pv 0))),
  λa=>BV.cast (b9 (ev_minK (x:="cell") (by decide) aI λc1=>(aF<|am aI<|au aA))) (by unfold eY;o_reads)⟩
def jH :ii P w K mg base 8 CM "let_meet" ["self","starts","meet"] (spM CM (ay (rL a7)<|bo a7) a7 λx=>bS x.1 x.2.1 x.2.2):=by
  have sc:FnScope ["self","starts","meet","#ended","met","elder","start"] ["self","starts","meet"] (ao gC):=by o_shape
  have nd:=sc.nd;refine al.d23.pM (n:=3) (gx:="#ended") sc (λh=>rfl) rfl rfl (by decide +kernel) λf ZP A outer s H E hr=>?_;have hu:=jd hr;refine⟨_,a9 (fP (loc:=["start"]) (cap:=[("self",0)]) (i:=4) rfl (by o_readsAll) nd rfl (Or.inl rfl) (dt<|pv 1) (λh h h h=>(aw 0)) (λh h h h=>bQ) λh h h h=>(cP ic (pv 1) kM.c (hr.mono (by decide))<|af<|pv 0))
    (a9 (av 5<|ar qi<|aa (dX<|pv 0)<|af<|pv 4)
    (a9 (c0 X9 rfl (dt<|pv 4) (aw 6)
      (ak<|cC (aZ nn (pv 6) (pv 5)<|aY _) (ak<|iU hu (dX<|pv 0) (pv 6) (gp<|aa (pv 2)<|af<|pv 5) rfl) bc))
    (ak<|aC<|pv 5))),λZZ p Wg a=>BV.cast
    (aG 4 (BU 0 3 rfl rfl cn (cu (aM aJ<|ai 1 rfl) (by decide) (by decide) (aH 0) λy=>mJ<|j2 ob_m (ai 1 rfl)<|au<|cH<|ai 0 rfl)).ev λmet =>
     aG 5 (aF<|am (xg kM aA)<|au cF) λelder =>
     cw (Γf:=λ(s:c6)=>[.fr (tY CM) (ZZ,p),.fr (rL a7) a.1,.fr a7 a.2,.od rP (λb=>b=p) s,.fr (rL a7) met,.fr a7 elder,.any]) Wg (aM aJ cF) (dJ<|gA<|aQ .nil) (λh=>aH 6)
      (λs x=>aU (cD (c5<|jt ik jy eA)
        (lV 3 (own_mE kM 0 3 rfl rfl) rfl jy (gH (cH bp)<|cH eA) λy=>aW y<|dJ<|gA<|aQ .nil)
        (be<|aW s<|dJ<|gA<|aQ .nil)))
      λs=>bv_retM 3 rfl eA)
    (by unfold bS;first|(simp only[Pu.bs,rV];done)|(simp only[Pu.bs,rV];rfl))⟩
def mD :ii P w K mg base 9 CW "let_come" pl2 (spW CM CW (bo a7) λx=>cS x.1 x.2):=by
  have sc:FnScope ["self","cell","#homes","#ended","homes"] pl2 (ao iN):=by o_shape
  have nd:=sc.nd;refine al.d24.pW (n:=1) (gx:="#homes") (gy:="#ended") sc (λb=>rfl) rfl rfl (by decide +kernel) rfl (by decide +kernel) λf ZP A outer s H E hr=>?_;have hu:=jd hr;refine⟨_,a9 (av 4<|cP jk (pv 0) kW.c (hr.mono (by decide))<|af<|pv 1)
    (ak<|kB (oJ (o9 (K:=K) rfl (pv 4) λb=>rfl) (cP jH (dX<|pv 0) kM.c (hr.mono (by decide))<|aa (pv 4)<|af<|pv 1)<|pv 1)<|kA (dX<|pv 0) (pv 1) set_list),λZZ Wf hh p Wh Wg a=>BV.cast
    (aG 4 (BW 0 2 3 rfl rfl rfl (by decide) cn<|uR ob_w (ai 0 rfl)<|au<|ai 1 rfl).ev λhs =>
     aU (zT (g:=3) 2 (by decide) (λe=>own_wH kW 0 2 rfl rfl) rfl (λe=>aI) (em_some<|em_if (om aJ cF) (em_meth kW 0 rfl rfl<|am cF<|au aI)<|em_pure rfl aI)
      λys e=>bv_endW 2 3 rfl rfl))
    (by unfold cS;first|(simp only[Pu.bs,rV];done)|(simp only[Pu.bs,rV];rfl))⟩
def ky :iu P w K mg base 11 "water_over" pl6 (nD (ay rF<|ay a7<|bo<|rL a7) (rW CM CW) λx=>dQ x.1 x.2.1 x.2.2):=by
  have sc:FnScope ["floor","reach","cells","#homes","#ended","water","cell"] pl6 (ao gN):=by o_shape
  have nd:=sc.nd;refine al.d25.pV sc (λh=>rfl) rfl λf ZP A outer s H E hr=>?_;have hu:=jd hr;refine⟨_,a9 (av 5<|pJ mC (hr.mono (by decide)) rfl<|aa (pv 0)<|af<|pv 1)
    (j3 (x:="#homes") 3 (j3 (x:="#ended") 4 (a9 (c0 X9 rfl (dt<|pv 2) (aw 6)<|ak<|cZ<|cP mD (pv 5) kW.c (hr.mono (by decide))<|af<|pv 6)
      (ak<|aC<|pv 5)) rfl (show fJ (ao gN) "#ended"=Wd by decide +kernel)) rfl (show fJ (ao gN) "#homes"=Wd by decide +kernel)),λa=>BV.cast
    (bv_make 5 3 4 ⟨by decide,by decide,by decide,(show 3<7 by decide),(show 4<7 by decide)⟩ (am aA<|au aI) λZZ Wf hh p Wh =>
     cw (Γf:=λ(s:List (Option Int)×c6)=>[.fr rF a.1,.fr a7 a.2.1,.fr (rL a7) a.2.2,.ol (b8 a7) (λb=>b=hh) s.1,.od rP (λb=>b=p) s.2,.fr (qq CM CW) (ZZ,Wf,hh,p),.any]) (Wh,[]) (aM aJ bp) (dJ<|gA<|aQ .nil) (λh=>aH 6)
      (λs x=>aU<|bv_come 5 3 4 (by decide) rfl rfl rfl (au jy) (λhs es=>aW (hs,es)<|dJ<|gA<|aQ .nil) ob_w0)
      λs=>bv_retW 5 3 4 (by decide) rfl rfl rfl ⟨by decide,by decide,(show 5<7 by decide)⟩)
    (by unfold dQ;first|(simp only[Pu.bs,rV];done)|(simp only[Pu.bs,rV];rfl))⟩
def ng:ii P w K mg base 1 CM "tree" ["self","starts"] (pf (ay (rM CM)<|bo<|rL a7) (qp a7 (b8 a7)<|b8 a7) λx=>eN x.1 x.2) :=
 al.d26.q fL ["self","starts"] λnd hr hu=>⟨_,(ak<|aC (cb (loc:=["start"]) (cap:=[("self",0)]) rfl (by o_readsAll)  (dt<|pv 1) (λa a a a=>(aw 0)) (λa a a a=>bQ) λa a a a=>(az (uV (K:=K) rfl) (gp<|af<|pv 0)<|uu hu (dX<|pv 1) (pv 0) (gp<|aa eC<|af eC) ⟨rfl,rfl,rfl,rfl⟩))),
  λa=>BV.cast (dq (cu (aM aJ aI) (by decide) (by decide) (aH 0) λy1=>(uT (yl aA)<|uS (mS kM aI) aA<|gH gF gF))) (by unfold eN;o_reads)⟩
def xM:iu P w K mg base 12 "tree_of" ["floor","reach"] (pf (ay (rL<|rL a7)<|bo a7) (qp a7 (b8 a7)<|b8 a7) λx=>gW x.1 x.2) :=
 al.d27.q fL ["floor","reach","order","water"] λnd hr hu=>⟨_,(a9 (av 2<|ar nO<|af<|pv 0)
   (a9 (av 3<|ar ky<|aa (pv 0)<|aa (pv 1)<|af<|pv 2)
   (ak<|aC<|cP ng (dX<|pv 3) kM.c (hr.mono (by decide))<|af (cb (loc:=["cell"]) (cap:=[("water",3)]) rfl (by o_readsAll)  (dt<|pv 2) (λa a a a=>(aw 0)) (λa a a a=>(g9<|aZ jn (cX (dX<|pv 1)<|pv 0) (pv 0)<|aY _)) λa a a a=>(pv 0))))),
  λa=>BV.cast (aG 2 ((aR<|au<|ai 0 rfl)).ev λorder1=>(aG 3 (aF<|am aA<|am aI<|au bp) λwater3=>(dq<|uR ob_m (uQ kW de)<|au ((dC (aM aJ<|ai 2 rfl) (by decide) (by decide) (aH 0) (λy5=>(c5<|hE sc_oi (bu aJ (jT kW<|ai 1 rfl)<|ai 0 rfl)<|ai 0 rfl)) λy5=>(ai 0 rfl))).ev))) (by unfold gW;o_reads)⟩
def qP:ii P w K mg base 13 CL "lakes" ["self"] (pf (bo<|i3 CL) (qp a7 (b8 a7)<|b8 a7) λx=>kT x) :=
 al.d28.q fL ["self"] λnd hr hu=>⟨_,(ak<|aC<|ar xM<|aa (dX<|pv 0)<|af<|dX<|pv 0),
  λa=>BV.cast (dq<|aR<|am (i4 kL aA)<|au<|j7 kL aA) (by unfold kT;o_reads)⟩
def Av:iu P w K mg base 1 "on_rim" ["size","cell"] (nD (ay (ga a7 a7)<|bo a7) aX λx=>mX x.1 x.2) :=
 al.d29.q eW ["size","cell","row","column"] λnd hr hu=>⟨_,(a9 (av 2<|az eJ (pv 1)<|ib (pv 0) aj)
   (a9 (av 3<|az dk (pv 1)<|ib (pv 0) aj)
   (ak<|aC<|pe_or (fX (Bm (K:=K) rfl) (pv 2) (gp<|aa aj<|af<|az ir (ib (pv 0) aj) aj) (by with_unfolding_all rfl))<|sh<|fX (Bm (K:=K) rfl) (pv 3) (gp<|aa aj<|af<|az ir (ib (pv 0) aj) aj) (by with_unfolding_all rfl)))),
  λa=>BV.cast (aG 2 (iX aI<|cr aA) λrow1=>(aG 3 (js aI<|cr aA) λcolumn3=>(b9<|ev_orT (yo Bx bp<|gH aq<|iw (jO aA) aq)<|yo Bx de<|gH aq<|iw (cr aA) aq))) (by unfold mX;o_reads)⟩
def jI :BZ P w K mg base 4 "RimWater" CR pl0 (spIR CR λx=>jA x):=by
 have sc:FnScope ["self","floor","reach","#reached","#drains","size","cell"] pl0 (ao cJ):=by o_shape
 have nd:=sc.nd;refine al.d30.has sc (λvs H Q E h=>?_) λf ZP A outer s H vs Q E hr h=>?_
 ·obtain⟨F,x,dx,vf,ZZ,Wf,dr,e,_⟩:=h;rw[e];rfl
 ·have hu:=jd hr;exact⟨_,a9 (gn (pv 0) (pv 1) rfl) (a9 (gn (pv 0) (pv 2) rfl) (a9 (gn (pv 0) jp rfl) (a9 (gn (pv 0) jp rfl)
   (j3 (x:="#reached") 3 (j3 (x:="#drains") 4 (a9 (av 5<|ar dI<|af<|pv 1)
    (ak (c0 X9 rfl (dt<|ar dY<|af<|pv 1) (aw 6)
     (ak<|cC (cK<|ar Av<|aa (pv 5)<|af<|pv 6) (ak<|iU hu (dX<|pv 0) (pv 6) eC rfl) bc))))
    rfl (show fJ (ao cJ) "#drains"=Wd by decide +kernel)) rfl (show fJ (ao cJ) "#reached"=Wd by decide +kernel))))),
   init_R kR rfl (λZZ Wf pa pb=>BV.cast
    (aG 5 (aF<|au aI) λsize=>aU (cw (Γf:=λ(s:hZ)=>[.fr (ij CR) (ZZ,Wf,pa,pb),.fr rF ZZ,.fr a7 Wf,.od a7 (λb=>b=pa) [],.od (b8 a7) (λb=>b=pb) s,.fr (ga a7 a7) size,.any]) [] (aM aJ (aR<|au<|ai 1 rfl).ev) (dJ<|gA<|aQ .nil) (λa=>aH 6)
     (λs x=>aU (cD (gG<|aF<|am eA<|au jy)
      (lV 4 (Cb kR 0 4 rfl rfl) rfl jy gF λy=>aW y<|dJ<|gA<|aQ .nil)
      (be<|aW s<|dJ<|gA<|aQ .nil)))
     λs=>bv_endI 3 4 rfl rfl))
    (by unfold jA;simp only[Pu.bs,rV,Option.bind_fun_some])) h⟩
def ip:ii P w K mg base 3 CR "opens" pl5 (nD (ay (C8 CR)<|ay a7<|bo a7) aX λx=>cT x.1 x.2.1 x.2.2) :=
 al.d31.q eW pl5 λnd hr hu=>⟨_,(ak<|aC<|sj (pe_cmp<|jL hu (pv 1)<|dX<|pv 0)<|sh<|fX oM (ar gP<|aa (dX<|pv 0)<|af<|pv 1) (pv 2)<|aY _),
  λa=>BV.cast (b9<|Br (jP aI<|vo kR aA)<|yj (aF<|am (A5 kR aA)<|au aI) bp) (by unfold cT;o_reads)⟩
def jc :ii P w K mg base 2 CR "new_beside" pl2 (spB CR (bo a7) (rL a7) λx=>bT x.1 x.2):=by
  have sc:FnScope ["self","cell","#drains","around","found","other"] pl2 (ao fO):=by o_shape
  have nd:=sc.nd;refine al.d32.pB (n:=3) (gx:="#drains") sc (λh=>rfl) rfl rfl (by decide +kernel) λf ZP A outer s H E hr=>?_;have hu:=jd hr;refine⟨_,a9 (av 3<|ar iA<|aa (ar dI<|af<|dX<|pv 0)<|aa (dX<|pv 0)<|af<|pv 1)
    (a9 (fP (loc:=["other"]) (cap:=[("self",0)]) (i:=4) rfl (by o_readsAll) nd rfl (Or.inl rfl) (dt<|pv 3) (λh h h h=>(aw 0)) (λh h h h=>g9<|sf<|jL hu (pv 0)<|dX<|pv 1) λh h h h=>(pv 0))
    (a9 (c0 X9 rfl (dt<|pv 4) (aw 5)<|ak<|iU hu (dX<|pv 0) (pv 5) (pv 1) rfl)
    (ak<|aC<|pv 4))),λZZ Wf pa pb dr a=>BV.cast
    (aG 3 (aR<|am (aF<|au<|A3 kR<|ai 0 rfl)<|am (A4 kR<|ai 0 rfl)<|au<|ai 1 rfl).ev λaround =>
     aG 4 (C9 (s:=rRb CR) (y:=(ZZ,Wf,dr)) 0 2 rfl rfl (λF v ws h1 h2 h3=>⟨pa,pb,ws,h1,h2,h3⟩) cn (dC (aM aJ<|ai 3 rfl) (by decide) (by decide) (aH 0) (λy=>gG<|jP (ai 0 rfl)<|xy kR<|ai 1 rfl) λy=>ai 0 rfl)).ev λfound =>
     cw (Γf:=λ(s:hZ)=>[.fr (ij CR) (ZZ,Wf,pa,pb),.fr a7 a,.od (b8 a7) (λb=>b=pb) s,.fr (rL a7) around,.fr (rL a7) found,.any]) dr (aM aJ cF) (dJ<|fj<|aQ .nil) (λh=>aH 5)
      (λs x=>aU (lV 2 (Cb kR 0 2 rfl rfl) rfl eA (cH aI) λy=>aW y<|dJ<|fj<|aQ .nil))
      λs=>bv_retB 2 rfl cF)
    (by unfold bT;first|(simp only[Pu.bs,rV];done)|(simp only[Pu.bs,rV];rfl))⟩
def ke :ii P w K mg base 4 CR "rise_to" pl3 (spR CR (bo a7) λx=>bZ x.1 x.2):=by
  have sc:FnScope ["self","height","#reached","#drains","waiting","cell"] pl3 (ao ia):=by o_shape
  have nd:=sc.nd;refine al.d33.pR (n:=2) (gx:="#reached") (gy:="#drains") sc (λh=>rfl) rfl rfl (by decide +kernel) rfl (by decide +kernel) λf ZP A outer s H E hr=>?_;have hu:=jd hr;refine⟨_,a9 (ps_fz (fP (loc:=["cell"]) (cap:=[("self",0),("height",1)]) (i:=4) rfl (by o_readsAll) nd rfl (Or.inl rfl) (pi_dict<|dX<|pv 0) (λh h h h=>(aw 0)) (λh h h h=>g9<|cK<|cP ip (pv 1) kR.c (hr.mono (by decide))<|aa (pv 0)<|af<|pv 2) λh h h h=>(pv 0)))
    (ak (lu X9 (o9 (K:=K) rfl (pv 4) λh=>rfl)
      (a9 (av 5<|og (K:=K) rfl W6 PySem.F.slot_list_pop PySem.F.type_list_pop AY<|pv 4)
      (a9 (iU hu (dX<|pv 0) (pv 5) (pv 1) rfl)
      (ak<|cZ<|gq (K:=K) rfl W6 PySem.F.slot_list_extend PySem.F.type_list_extend zo (pv 4)<|af (cb (loc:=["other"]) (cap:=[("self",0),("height",1)]) rfl (by o_readsAll) (dt<|cP jc (pv 0) kR.c (hr.mono (by decide))<|af<|pv 5) (λh h h h=>(aw 0)) (λh h h h=>g9<|cK<|cP ip (pv 1) kR.c (hr.mono (by decide))<|aa (pv 0)<|af<|pv 2) λh h h h=>(pv 0))))))),λZZ Wf pa pb rd dr a=>BV.cast
    (bv_fz 0 2 3 4 (by decide) ⟨by decide,by decide,(show 0<6 by decide)⟩ rfl rfl rfl (dC (iv_dict<|xA kR aA) (by decide) (by decide) (aH 0) (λy=>gG<|j2 ob_a (ev_zA aI)<|am aA<|au bp) λy=>aA) λwaiting =>
     aU (sZ (Γf:=λ(s:List Int×nX×hZ)=>[.fr (ij CR) (ZZ,Wf,pa,pb),.fr a7 a,.od a7 (λb=>b=pa) s.2.1,.od (b8 a7) (λb=>b=pb) s.2.2,.ol a7 jj s.1,.any]) 100000 (waiting,rd,dr) (dJ<|fj<|aQ .nil) (λs=>kK 4 rfl<|om aJ cF)
      (λs=>bv_pop 4 5 rfl λcell ws=>lV 2 (own_rA kR 0 2 rfl rfl) rfl eA aI λrd2 =>
        aU (bv_ext 0 2 3 4 ⟨by decide,by decide⟩ rfl (by decide) rfl rfl rfl (au eA) (by decide) (by decide) (λd=>aH 0) (λd y=>gG<|j2 ob_a aI<|am aA<|au bp) (λd y=>aA)
          (λzs d=>aW (zs,rd2,d)<|dJ<|fj<|aQ .nil) ob_r0))
      λs=>bv_endR 2 3 rfl rfl))
    (by unfold bZ;first|(simp only[Pu.bs,rV];done)|(simp only[Pu.bs,rV];rfl))⟩
def qQ :iu P w K mg base 6 "risen_over" pl7 (nD (ay rF<|ay a7<|bo<|rL a7) (rR CR) λx=>kQ x.1 x.2.1 x.2.2):=by
  have sc:FnScope ["floor","reach","heights","#reached","#drains","water","height"] pl7 (ao gO):=by o_shape
  have nd:=sc.nd;refine al.d34.pV sc (λh=>rfl) rfl λf ZP A outer s H E hr=>?_;have hu:=jd hr;refine⟨_,a9 (av 5<|pJ jI (hr.mono (by decide)) rfl<|aa (pv 0)<|af<|pv 1)
    (j3 (x:="#reached") 3 (j3 (x:="#drains") 4 (a9 (c0 X9 rfl (dt<|pv 2) (aw 6)<|ak<|cZ<|cP ke (pv 5) kR.c (hr.mono (by decide))<|af<|pv 6)
      (ak<|aC<|pv 5)) rfl (show fJ (ao gO) "#drains"=Wd by decide +kernel)) rfl (show fJ (ao gO) "#reached"=Wd by decide +kernel)),λa=>BV.cast
    (Cc 5 3 4 (by decide) (am aA<|au aI) λZZ Wf pa pb dr =>
     cw (Γf:=λ(s:nX×hZ)=>[.fr rF a.1,.fr a7 a.2.1,.fr (rL a7) a.2.2,.od a7 (λb=>b=pa) s.1,.od (b8 a7) (λb=>b=pb) s.2,.fr (ij CR) (ZZ,Wf,pa,pb),.any]) ([],dr) (aM aJ bp) (dJ<|gA<|aQ .nil) (λh=>aH 6)
      (λs x=>aU<|bv_rise 5 3 4 (by decide) rfl rfl rfl (au jy) (λhs es=>aW (hs,es)<|dJ<|gA<|aQ .nil) ob_r0)
      λs=>bv_retR 5 3 4 (by decide) rfl rfl rfl ⟨by decide,by decide,(show 5<7 by decide)⟩)
    (by unfold kQ;first|(simp only[Pu.bs,rV];done)|(simp only[Pu.bs,rV];rfl))⟩
def qR:iu P w K mg base 4 "heights_in" D0 (pf (bo<|rL<|rL a7) a7 λx=>i6 x) :=
 al.d35.q fL D0 λnd hr hu=>⟨_,(ak<|aC<|aP (xx rfl) (by rfl) B.sorted gT<|af<|df (zZ (K:=K) rfl rfl) (by rfl) B.set_ Bk<|af<|ar gm<|af<|pv 0),
  λa=>BV.cast (dq<|A1<|ev_setW ((aR<|au<|ai 0 rfl)).ev) (by unfold i6;o_reads)⟩
def rS:iu P w K mg base 7 "filled" ["floor","reach"] (spG (ay (rL<|rL a7)<|bo a7) rNN λx=>filled x.1 x.2) :=
 al.d36.q vz ["floor","reach","water"] λnd hr hu=>⟨_,(a9 (av 2<|ar qQ<|aa (pv 0)<|aa (pv 1)<|af<|ar qR<|af<|pv 0)
   (ak<|aC<|ar nL<|aa (ar dI<|af<|pv 0)<|af (cb (loc:=["cell"]) (cap:=[("water",2)]) rfl (by o_readsAll)  (dt<|ar dY<|af<|pv 0) (λa a a a=>(aw 0)) (λa a a a=>bQ) λa a a a=>(yb hu (dX<|pv 1) (pv 0) λa a=>rfl)))),
  λa=>BV.cast (aG 2 (EV.cast (aF<|am (ai 0 rfl)<|am (ai 1 rfl)<|au ((aR<|au<|ai 0 rfl)).ev) as3) λwater2=>(m8<|nV.cast (iF<|am (aF<|au aA)<|au ((cu (aM aJ ((aR<|au<|ai 0 rfl)).ev) (by decide) (by decide) (aH 0) λy4=>(Bw (vp kR<|ai 1 rfl)<|ai 0 rfl))).ev) as2)) (by unfold filled;o_reads)⟩
def qk:ii P w K mg base 8 CL "levels" ["self"] (spG (bo<|i3 CL) rNN λx=>jC x) :=
 al.d37.q vz ["self"] λnd hr hu=>⟨_,(ak<|aC<|ar rS<|aa (dX<|pv 0)<|af<|dX<|pv 0),
  λa=>BV.cast (m8<|iF<|am (i4 kL aA)<|au<|j7 kL aA) (by unfold jC;o_reads)⟩
def ql:iu P w K mg base 1 "_law_whole" pl4 (nD (ay (b8 a7)<|bo<|b8 a7) aX λx=>gh x.1 x.2) :=
 al.d38.q eW pl4 λnd hr hu=>⟨_,(a9 (cC (aZ sr (pv 1) eC<|aY _)
   (ak<|aC<|fX sr (pv 0) eC<|aY _)
   bc)
   (ak<|aC<|sj (aP (gU (K:=K) (T:="int") rfl) (by rfl) B.isinstance dg<|aa (pv 0)<|af<|jJ (v:=.ty "int") rfl B.int_ Bi rfl)<|sj (pe_not<|aP (gU (K:=K) (T:="bool") rfl) (by rfl) B.isinstance dg<|aa (pv 0)<|af<|jJ (v:=.ty "bool") rfl B.bool_ bo_bool rfl)<|sh<|fX jn (pv 0) (pv 1)<|aY _)),
  λa=>BV.cast (cD (c5<|sT aI kJ)
  (cI<|b9<|sT aA kJ)
  (be<|b9<|t8 (mK aA isi_oi)<|t8 (ev_not<|mK aA isi_ob)<|hE sc_oo aA aI)) (by unfold gh;o_reads)⟩
def qm:iu P w K mg base 2 "_law_numbers" pl4 (nD (ay (rL<|b8 a7)<|bo<|rL<|b8 a7) aX λx=>fU x.1 x.2) :=
 al.d39.q eW pl9 λnd hr hu=>⟨_,(a9 (cC (PW.pt<|kg (fg<|cK<|aP (gU (K:=K) (T:="list") rfl) (by rfl) B.isinstance dg<|aa (pv 0)<|af<|jJ (v:=.ty "list") rfl B.list_ fY rfl)<|jm<|aZ nn (gr<|pv 0) (gr<|pv 1)<|aY _)
   (ak<|aC gu)
   bc)
   (a9 (c0 X9 rfl (sO (K:=K) rfl rfl B.zip<|aa (pv 0)<|af<|pv 1) (lJ (K:=K) (n:=2) rfl rfl<|eE (aw 2)<|eE (aw 3) lh)
   (ak (cC (fg<|cK<|ar ql<|aa (pv 2)<|af<|pv 3)
   (ak<|aC gu)
   bc)))
   (ak<|aC gu))),
  λa=>BV.cast (cD (mO (fk<|gG<|mK aA wN)<|c5<|jt ik (dB aJ aA)<|dB aJ aI)
  (cI<|b9 gz)
  (be (lT (Γf:=λ(s2:Unit)=>[.fr (rL<|b8 a7) (a.1),.fr (rL<|b8 a7) (a.2),.any,.any]) (rf:=nT aX) (e:=(λx=>x)) (()) (wO aA aI) (gA<|aQ<|aQ .nil) (λb=>(lP 2 3))
  (λs2 x1=>(aU (cD (fk<|gG<|aF<|am bp<|au de)
  (cI<|jQ<|b9 gz)
  (be<|ju (())<|gA<|aQ<|aQ .nil))))
  rfV (λb b b h=>h) λs2=>(b9 gz)))) (by unfold fU;o_reads)⟩
def rT:iu P w K mg base 3 "_law_floors" pl4 (nD (ay (rL<|rL a7)<|bo<|rL<|rL a7) aX λx=>gX x.1 x.2) :=
 al.d40.q eW ["_law_found","_law_due","_law_row","_law_other"] λnd hr hu=>⟨_,(a9 (cC (PW.pt<|kg (fg<|cK<|aP (gU (K:=K) (T:="list") rfl) (by rfl) B.isinstance dg<|aa (pv 0)<|af<|jJ (v:=.ty "list") rfl B.list_ fY rfl)<|jm<|aZ nn (gr<|pv 0) (gr<|pv 1)<|aY _)
   (ak<|aC gu)
   bc)
   (a9 (c0 X9 rfl (sO (K:=K) rfl rfl B.zip<|aa (pv 0)<|af<|pv 1) (lJ (K:=K) (n:=2) rfl rfl<|eE (aw 2)<|eE (aw 3) lh)
   (ak (cC (fg<|cK<|ar qm<|aa (pv 2)<|af<|pv 3)
   (ak<|aC gu)
   bc)))
   (ak<|aC gu))),
  λa=>BV.cast (cD (mO (fk<|gG<|mK aA wN)<|c5<|jt ik (dB aJ aA)<|dB aJ aI)
  (cI<|b9 gz)
  (be (lT (Γf:=λ(s2:Unit)=>[.fr (rL<|rL a7) (a.1),.fr (rL<|rL a7) (a.2),.any,.any]) (rf:=nT aX) (e:=(λx=>x)) (()) (wO aA aI) (gA<|aQ<|aQ .nil) (λb=>(lP 2 3))
  (λs2 x1=>(aU (cD (fk<|gG<|aF<|am (v5 bp)<|au<|v5 de)
  (cI<|jQ<|b9 gz)
  (be<|ju (())<|gA<|aQ<|aQ .nil))))
  rfV (λb b b h=>h) λs2=>(b9 gz)))) (by unfold gX;o_reads)⟩
def Aw:iu P w K mg base 3 "_law_tuples" pl4 (nD (ay (rL<|qp a7 (b8 a7)<|b8 a7)<|bo<|rL<|qp a7 (b8 a7)<|b8 a7) aX λx=>iG x.1 x.2) :=
 al.d41.q eW pl9 λnd hr hu=>⟨_,(a9 (cC (PW.pt<|kg (fg<|cK<|aP (gU (K:=K) (T:="list") rfl) (by rfl) B.isinstance dg<|aa (pv 0)<|af<|jJ (v:=.ty "list") rfl B.list_ fY rfl)<|jm<|aZ nn (gr<|pv 0) (gr<|pv 1)<|aY _)
   (ak<|aC gu)
   bc)
   (a9 (c0 X9 rfl (sO (K:=K) rfl rfl B.zip<|aa (pv 0)<|af<|pv 1) (lJ (K:=K) (n:=2) rfl rfl<|eE (aw 2)<|eE (aw 3) lh)
   (ak (cC (PW.pt<|kg (fg<|cK<|aP (gU (K:=K) (T:="tuple") rfl) (by rfl) B.isinstance dg<|aa (pv 2)<|af<|jJ (v:=.ty "tuple") rfl B.tuple_ Bj rfl)<|jm<|fg<|cK<|ar qm<|aa (df (fQ (K:=K) rfl) (by rfl) B.list_ fY<|af<|pv 2)<|af<|df (fQ (K:=K) rfl) (by rfl) B.list_ fY<|af<|pv 3)
   (ak<|aC gu)
   bc)))
   (ak<|aC gu))),
  λa=>BV.cast (cD (mO (fk<|gG<|mK aA wN)<|c5<|jt ik (dB aJ aA)<|dB aJ aI)
  (cI<|b9 gz)
  (be (lT (Γf:=λ(s2:Unit)=>[.fr (rL<|qp a7 (b8 a7)<|b8 a7) (a.1),.fr (rL<|qp a7 (b8 a7)<|b8 a7) (a.2),.any,.any]) (rf:=nT aX) (e:=(λx=>x)) (()) (wO aA aI) (gA<|aQ<|aQ .nil) (λb=>(lP 2 3))
  (λs2 x1=>(aU (cD (uG (fk<|gG<|mK bp isi_t3)<|fk<|gG<|aF<|am ((ko<|ai 2 rfl)).ev (au ((ko<|ai 3 rfl)).ev))
  (cI<|jQ<|b9 gz)
  (be<|ju (())<|gA<|aQ<|aQ .nil))))
  rfV (λb b b h=>h) λs2=>(b9 gz)))) (by unfold iG;o_reads)⟩
def nZ:iu P w K mg base 1 "_law_height_asked" ["_law_floor_here","_law_number_here"] (nD (ay (rL<|rL a7)<|bo a7) a7 λx=>iH x.1 x.2) :=
 al.d42.q eW ["_law_floor_here","_law_number_here","_law_row","_law_height_here","_law_some"] λnd hr hu=>⟨_,(a9 (av 2<|cX (pv 0)<|az dk (pv 1)<|gr<|pv 0)
   (a9 (av 3<|cX (pv 2)<|az dk (az eJ (pv 1) aj)<|gr<|pv 2)
   (a9 (av 4<|cL<|aa (pv 3)<|aa (pv 3)<|aa (aP (iB rfl) (by rfl) B.max p9<|aa aj<|af<|az ir (pv 3) aj)<|aa (aP (iC rfl) (by rfl) B.min kI<|aa (az kC aj aj)<|af<|az bq (pv 3) aj)<|aa aj<|aa (az kC aj aj)<|af<|az dk (az dz (pv 1)<|az kC aj aj)<|az kC aj aj)
   (ak<|aC<|cX (pv 4)<|az dk (az eJ (pv 1) aj) aj)))),
  λa=>BV.cast (aG 2 (bu aJ aA<|js aI<|dB aJ aA) λrow2=>(aG 3 (bu aJ bp<|js (lW aI aq (by decide))<|dB aJ bp) λheight_here5=>(aG 4 ((cf<|bg (ai 3 rfl)<|bg (ai 3 rfl)<|bg (lO aq<|iw (ai 3 rfl) aq)<|bg (lN (iY (v:=1000000000000000000) aq aq (by decide))<|br (ai 3 rfl) aq)<|bg aq<|bg (iY (v:=1000000000000000000) aq aq (by decide))<|bg (ft (jR (ai 1 rfl) (iY (v:=1000000000) aq aq (by decide)) (by decide)) (iY (v:=1000000000000000000) aq aq (by decide)) (by decide)) ce)).ev λsome7=>(b9<|bu aJ cF<|ft (lW aI aq (by decide)) aq (by decide))))) (by unfold iH;o_reads)⟩
def Ax:iu P w K mg base 2 "_law_labels" ["_law_floor_here","_law_reach","_law_height_here"] (pf (ay (rL<|rL a7)<|ay a7<|bo a7) (b8 a7) λx=>iI x.1 x.2.1 x.2.2) :=
 al.d43.q fL ["_law_floor_here","_law_reach","_law_height_here","_law_keys_here","_law_labels_here","_law_key","_law_left","_law_near_here"] λnd hr hu=>⟨_,(a9 (av 3<|ar yW<|af<|pv 0)
   (a9 (fP (loc:=["_law_key"]) (cap:=[]) (i:=4) rfl (by o_readsAll) nd rfl (Or.inl rfl) (dt<|pv 3) (λb b b b=>(aw 0)) (λb b b b=>bQ) λb b b b=>eC)
   (a9 (c0 X9 rfl (dt<|aP (pF (K:=K) rfl) (by rfl) B.sorted gT<|af<|pv 3) (aw 5)
   (ak (cC (PW.pt<|mE (aZ oM (ib (pv 5) aj) (pv 2)<|aY _)<|l8<|aZ sr (cX (pv 4)<|ib (pv 5) aj) eC<|aY _)
   (a9 (kB (ib (pv 5) aj)<|kA (pv 4) (ib (pv 5) aj) set_list)
   (a9 (av 6<|cL<|af<|ib (pv 5) aj)
   (ak (lu X9 (aZ op_gt (gr<|pv 6) aj<|aY _)
   (ak (c0 X9 rfl (dt<|ar yX<|aa (pv 0)<|aa (pv 1)<|af<|og (K:=K) rfl W6 PySem.F.slot_list_pop PySem.F.type_list_pop AY<|pv 6) (aw 7)
   (ak (cC (PW.pt<|mE (aZ oM (ib (cX (pv 3)<|pv 7) aj) (pv 2)<|aY _)<|l8<|aZ sr (cX (pv 4)<|pv 7) eC<|aY _)
   (a9 (kB (ib (pv 5) aj)<|kA (pv 4) (pv 7) set_list)
   (ak<|cZ<|gq (K:=K) rfl W6 T2 T3 cM (pv 6)<|af<|pv 7))
   bc))))))))
   bc)))
   (ak<|aC<|pv 4)))),
  λa=>BV.cast (aG 3 ((aR<|au<|ai 0 rfl)).ev λkeys_here1=>(dO 4 (cu (aM aJ de) (by decide) (by decide) (aH 0) λy3=>gF) λlabels_here4=>(cw (Γf:=λ(s7:(List<|Option<|Int))=>[.fr (rL<|rL a7) (a.1),.fr a7 (a.2.1),.fr a7 (a.2.2),.fr (rL<|ga a7 a7) (keys_here1),.ol (b8 a7) jj (s7),.any,.any,.any]) (labels_here4) (aM aJ ((rA<|ai 3 rfl)).ev) (dJ<|fj<|aQ<|aQ<|aQ .nil) (λb=>(aH 5))
  (λs7 x6=>(aU (cD (kK 4 rfl<|sV (c5<|yj (jO eA) bp)<|c5<|sT (bu aJ cF<|cr eA) kJ)
  (eL (lU 4 rfl (cr eA) (cH<|cr eA) λlabels_here9=>(eL (dO 6 (cf<|bg (cr eA) ce) λleft12=>(sZ (Γf:=λ(s13:(List<|Option<|Int)×(List<|Int))=>[.fr (rL<|rL a7) (a.1),.fr a7 (a.2.1),.fr a7 (a.2.2),.fr (rL<|ga a7 a7) (keys_here1),.ol (b8 a7) jj (s13.1),.fr (ga a7 a7) (x6),.ol a7 jj (s13.2),.any]) 100000 ((labels_here9,left12)) (dJ<|gA<|fj<|aQ .nil) (λs13=>(kK 6 rfl<|c5<|ev_gt (dB aJ jy) aq))
  (λs13=>(aU (bv_forQ 6 rfl λa15 left14=>(cw (Γf:=λ(s17:(List<|Option<|Int)×(List<|Int))=>[.fr (rL<|rL a7) (a.1),.fr a7 (a.2.1),.fr a7 (a.2.2),.fr (rL<|ga a7 a7) (keys_here1),.ol (b8 a7) jj (s17.1),.fr (ga a7 a7) (x6),.ol a7 jj (s17.2),.any]) ((s13.1,left14)) (aM aJ (aR<|am (ai 0 rfl)<|am (ai 1 rfl)<|au aq).ev) (dJ<|gA<|fj<|aQ .nil) (λb=>(aH 7))
  (λs17 x16=>(aU (cD (kK 4 rfl<|sV (c5<|yj (jO<|bu aJ de gf) bp)<|c5<|sT (bu aJ cF gf) kJ)
  (eL (lU 4 rfl gf (cH<|cr eA) λlabels_here22=>(dh 6 rfl gf λleft25=>(aW ((labels_here22,left25))<|dJ<|gA<|fj<|aQ .nil))))
  (be<|aW ((s17.1,s17.2))<|dJ<|gA<|fj<|aQ .nil))))
  λs17=>(aW ((s17.1,s17.2))<|dJ<|gA<|fj<|aQ .nil)))))
  λs13=>(aW (s13.1)<|dJ<|fj<|aQ<|aQ<|aQ .nil))))))
  (be<|aW (s7)<|dJ<|fj<|aQ<|aQ<|aQ .nil))))
  λs7=>(lS 4 rfl)))) (by unfold iI;o_reads)⟩
def kz:iu P w K mg base 8 "covered_at" ["floor","height"] (pf (ay (rL<|rL a7)<|bo a7) a7 λx=>dG x.1 x.2) :=
 al.d44.q fL ["floor","height"] λnd hr hu=>⟨_,(ak<|aC (cb (loc:=["cell"]) (cap:=[("floor",0),("height",1)]) rfl (by o_readsAll)  (dt<|ar nO<|af<|pv 0) (λa a a a=>(aw 0)) (λa a a a=>(g9<|aZ oM (ar gP<|aa (pv 1)<|af<|pv 0) (pv 2)<|aY _)) λa a a a=>(pv 0))),
  λa=>BV.cast (dq (dC (aM aJ ((aR<|au<|ai 0 rfl)).ev) (by decide) (by decide) (aH 0) (λy1=>(c5<|yj (aF<|am aI<|au aA) bp)) λy1=>aA)) (by unfold dG;o_reads)⟩
def kZ:ii P w K mg base 2 CW "start_now" pl2 (nD (ay (rW CM CW)<|bo a7) (b8 a7) λx=>aN x.1 x.2) :=
 al.d45.q eW pl2 λnd hr hu=>⟨_,(ak<|aC<|cP ic (dX<|pv 0) kM.c (hr.mono (by decide))<|af<|cX (dX<|pv 0)<|pv 1),
  λa=>BV.cast (b9<|j2 ob_m (uQ kW aA)<|au<|bu aJ (jT kW aA) aI) (by unfold aN;o_reads)⟩
def vX:iu P w K mg base 12 "lakes_at" ["floor","reach","height"] (pf (ay (rL<|rL a7)<|ay a7<|bo a7) (b8 a7) λx=>jz x.1 x.2.1 x.2.2) :=
 al.d46.q fL ["floor","reach","height","water"] λnd hr hu=>⟨_,(a9 (av 3<|ar ky<|aa (pv 0)<|aa (pv 1)<|af<|ar kz<|aa (pv 0)<|af<|pv 2)
   (ak<|aC (cb (loc:=["cell"]) (cap:=[("water",3)]) rfl (by o_readsAll)  (dt<|ar dY<|af<|pv 0) (λa a a a=>(aw 0)) (λa a a a=>bQ) λa a a a=>(cP kZ (pv 1) kW.c (hr.mono (by decide))<|af<|pv 0)))),
  λa=>BV.cast (aG 3 (EV.cast (aF<|am (ai 0 rfl)<|am (ai 1 rfl)<|au ((aR<|am (ai 0 rfl)<|au<|ai 2 rfl)).ev) as3) λwater2=>(dq (cu (aM aJ ((aR<|au<|ai 0 rfl)).ev) (by decide) (by decide) (aH 0) λy4=>(j2 ob_w aI<|au aA)))) (by unfold jz;o_reads)⟩
def tW:ii P w K mg base 13 CL "lake" pl5 (nD (ay (i3 CL)<|ay a7<|bo a7) (b8 a7) λx=>mY x.1 x.2.1 x.2.2) :=
 al.d47.q eW pl5 λnd hr hu=>⟨_,(ak<|aC<|cX (ar vX<|aa (dX<|pv 0)<|aa (dX<|pv 0)<|af<|pv 2)<|pv 1),
  λa=>BV.cast (b9<|bu aJ ((aR<|am (i4 kL<|ai 0 rfl)<|am (j7 kL<|ai 0 rfl)<|au<|ai 2 rfl)).ev aI) (by unfold mY;o_reads)⟩
def jh:iu P w K mg base 4 "comes_before" ["floor","one","other"] (nD (ay (rL<|rL a7)<|ay a7<|bo a7) aX λx=>da x.1 x.2.1 x.2.2) :=
 al.d48.q eW ["floor","one","other"] λnd hr hu=>⟨_,(ak<|aC<|fX (op_ltT<|Nat.lt_of_succ_lt<|jd hr) (ar gQ<|aa (pv 0)<|af<|pv 1) (ar gQ<|aa (pv 0)<|af<|pv 2)<|aY _),
  λa=>BV.cast (b9<|ev_ltT2 (aF<|am aA<|au aI)<|aF<|am aA<|au bp) (by unfold da;o_reads)⟩
def tX:iu P w K mg base 5 "ways_back" pl8 (spD (ay (rL<|rL a7)<|ay a7<|ay a7<|bo a7) (b8 a7) λx=>jV x.1 x.2.1 x.2.2.1 x.2.2.2) :=
 al.d49.q spx_D ["floor","reach","cell","last","size","back","waiting","here","other"] λnd hr hu=>⟨_,(a9 (av 4<|ar dI<|af<|pv 0)
   (a9 (av 5<|pe_disp (B4 (pv 2) eC pps_nil) rfl rfl (by simp) (by decide))
   (a9 (av 6<|cL<|af<|pv 2)
   (a9 (lu X9 (o9 (K:=K) rfl (pv 6) λb=>rfl)
   (a9 (av 7<|gq (K:=K) rfl W6 PySem.F.slot_list_pop PySem.F.type_list_pop AZ (pv 6)<|af aj)
   (ak (c0 X9 rfl (dt<|ar iA<|aa (pv 4)<|aa (pv 1)<|af<|pv 7) (aw 8)
   (ak (cC (PW.pt<|mE (sf<|jL hu (pv 8)<|pv 5)<|l8<|fg<|cK<|ar jh<|aa (pv 0)<|aa (pv 3)<|af<|pv 8)
   (a9 (iU hu (pv 5) (pv 8) (pv 7) rfl)
   (ak<|cZ<|gq (K:=K) rfl W6 T2 T3 cM (pv 6)<|af<|pv 8))
   bc))))))
   (ak<|aC<|pv 5))))),
  λa=>BV.cast (aG 4 (aF<|au aA) λsize1=>(sY 5 (evd_one bp gF) λback3=>(dO 6 (cf<|bg bp ce) λwaiting4=>(sZ (Γf:=λ(s5:(List<|Int×Option (Int))×(List<|Int))=>[.fr (rL<|rL a7) (a.1),.fr a7 (a.2.1),.fr a7 (a.2.2.1),.fr a7 (a.2.2.2),.fr (ga a7 a7) (size1),.od (b8 a7) jj (s5.1),.ol a7 jj (s5.2),.any,.any]) 100000 ((back3,waiting4)) (dJ<|gA<|fj<|aQ<|aQ .nil) (λs5=>(kK 6 rfl<|om aJ jy))
  (λs5=>(bv_popF 6 7 rfl (by decide) λhere6 waiting8=>(aU (cw (Γf:=λ(s10:(List<|Int×Option (Int))×(List<|Int))=>[.fr (rL<|rL a7) (a.1),.fr a7 (a.2.1),.fr a7 (a.2.2.1),.fr a7 (a.2.2.2),.fr (ga a7 a7) (size1),.od (b8 a7) jj (s10.1),.ol a7 jj (s10.2),.fr a7 (here6),.any]) ((s5.1,waiting8)) (aM aJ ((aR<|am (ai 4 rfl)<|am (ai 1 rfl)<|au<|ai 7 rfl)).ev) (dJ<|dJ<|aQ .nil) (λb=>(aH 8))
  (λs10 x9=>(aU (cD (yp 5 rfl<|sV (gG<|jP i0 eA)<|fk<|gG<|aF<|am aA<|am de<|au i0)
  (eL (wQ 5 rfl i0 (cH gf) λback12=>(dh 6 rfl i0 λwaiting15=>(aW ((back12,waiting15))<|dJ<|dJ<|aQ .nil))))
  (be<|aW ((s10.1,s10.2))<|dJ<|dJ<|aQ .nil))))
  λs10=>(aW ((s10.1,s10.2))<|dJ<|gA<|fj<|aQ<|aQ .nil)))))
  λs5=>(Bz 5 rfl))))) (by unfold jV;o_reads)⟩
def ni:iu P w K mg base 6 "stretch_under" pl8 (pf (ay (rL<|rL a7)<|ay a7<|ay a7<|bo a7) a7 λx=>bY x.1 x.2.1 x.2.2.1 x.2.2.2) :=
 al.d50.q fL pl8 λnd hr hu=>⟨_,(a9 (cC (cK<|ar jh<|aa (pv 0)<|aa (pv 3)<|af<|pv 2)
   (ak<|aC<|cL eQ)
   bc)
   (ak<|aC<|aP (wX rfl) (by rfl) B.sorted gT<|af<|ar tX<|aa (pv 0)<|aa (pv 1)<|aa (pv 2)<|af<|pv 3)),
  λa=>BV.cast (cD (gG<|aF<|am aA<|am de<|au bp)
  (cI<|dq<|cf (r:=a7) ce)
  (be<|dq<|zK ((Bu<|am (ai 0 rfl)<|am (ai 1 rfl)<|am (ai 2 rfl)<|au<|ai 3 rfl)).ev)) (by unfold bY;o_reads)⟩
def o4:iu P w K mg base 9 "stretches_at" ["floor","reach","height"] (pf (ay (rL<|rL a7)<|ay a7<|bo a7) (rL a7) λx=>dR x.1 x.2.1 x.2.2) :=
 al.d51.q fL ["floor","reach","height","covered","found","seen","cell","stretch","other"] λnd hr hu=>⟨_,(a9 (av 3<|ar kz<|aa (pv 0)<|af<|pv 2)
   (a9 (av 4<|cL eQ)
   (a9 (av 5 jp)
   (a9 (c0 X9 rfl (dt<|aP (wU (K:=K) rfl) (by rfl) B.sorted gT<|af<|pv 3) (aw 6)
   (ak (cC (sf<|jL hu (pv 6)<|pv 5)
   (a9 (av 7<|ar ni<|aa (pv 0)<|aa (pv 1)<|aa (pv 6)<|af<|cX (pv 3)<|xP sk aj)
   (a9 (cZ<|gq (K:=K) rfl W6 T2 T3 cM (pv 4)<|af<|pv 7)
   (ak (c0 X9 rfl (dt<|pv 7) (aw 8)
   (ak<|iU hu (pv 5) (pv 8) gu rfl)))))
   bc)))
   (ak<|aC<|pv 4))))),
  λa=>BV.cast (aG 3 ((aR<|am (ai 0 rfl)<|au<|ai 2 rfl)).ev λcovered1=>(dO 4 (cf (r:=(rL a7)) ce) λfound3=>(sY 5 yv λseen4=>(cw (Γf:=λ(s6:(List<|List<|Int)×(List<|Int×Bool))=>[.fr (rL<|rL a7) (a.1),.fr a7 (a.2.1),.fr a7 (a.2.2),.fr (rL a7) (covered1),.ol (rL a7) jj (s6.1),.od aX jj (s6.2),.any,.any,.any]) ((found3,seen4)) (aM aJ ((zI<|ai 3 rfl)).ev) (dJ<|gA<|aQ<|aQ<|aQ .nil) (λb=>(aH 6))
  (λs6 x5=>(aU (cD (yp 5 rfl<|gG<|jP jy eA)
  (eL (aG 7 ((iR.cast (aR<|am (ai 0 rfl)<|am (ai 1 rfl)<|am (ai 6 rfl)<|au<|bu aJ (ai 3 rfl)<|wH aq) as4)).ev λstretch8=>(eL (dh 4 rfl gf λfound10=>(cw (Γf:=λ(s13:(List<|Int×Bool))=>[.fr (rL<|rL a7) (a.1),.fr a7 (a.2.1),.fr a7 (a.2.2),.fr (rL a7) (covered1),.ol (rL a7) jj (found10),.od aX jj (s13),.fr a7 (x5),.fr (rL a7) (stretch8),.any]) (s6.2) (aM aJ gf) (dJ<|dJ<|aQ .nil) (λb=>(aH 8))
  (λs13 x12=>(aU (wQ 5 rfl i0 gz λseen14=>(aW (seen14)<|dJ<|dJ<|aQ .nil))))
  λs13=>(aW ((found10,s13))<|dJ<|gA<|aQ<|aQ<|aQ .nil))))))
  (be<|aW ((s6.1,s6.2))<|dJ<|gA<|aQ<|aQ<|aQ .nil))))
  λs6=>(lS 4 rfl))))) (by unfold dR;o_reads)⟩
def o5:ii P w K mg base 10 CL "many_at" pl3 (nD (ay (i3 CL)<|bo a7) a7 λx=>j9 x.1 x.2) :=
 al.d52.q eW pl3 λnd hr hu=>⟨_,(ak<|aC<|gr<|ar o4<|aa (dX<|pv 0)<|aa (dX<|pv 0)<|af<|pv 1),
  λa=>BV.cast (b9<|dB aJ ((aR<|am (i4 kL<|ai 0 rfl)<|am (j7 kL<|ai 0 rfl)<|au<|ai 1 rfl)).ev) (by unfold j9;o_reads)⟩
def vY:iu P w K mg base 14 "_law_asked" ["_law_land","_law_floor_here","_law_reach","_law_script","_law_k"] (nD (ay (i3 CL)<|ay (rL<|rL a7)<|ay a7<|ay (mH K)<|bo a7) aX λx=>gk x.1 x.2.1 x.2.2.1 x.2.2.2.1 x.2.2.2.2) :=
 al.d53.q eW ["_law_land","_law_floor_here","_law_reach","_law_script","_law_k","_law_height_here","_law_labels_here","_law_cell","_law_many"] λnd hr hu=>⟨_,(a9 (av 5<|ar nZ<|aa (pv 1)<|af<|ar iO<|aa (pv 3)<|aa (pv 4)<|af<|az kC aj aj)
   (a9 (av 6<|ar Ax<|aa (pv 1)<|aa (pv 2)<|af<|pv 5)
   (a9 (av 7<|ar iO<|aa (pv 3)<|aa (az bq (pv 4) aj)<|af<|az ir (gr<|pv 6) aj)
   (a9 (cC (fg<|cK<|ar ql<|aa (cP tW (pv 0) kL.c (hr.mono (by decide))<|aa (pv 7)<|af<|pv 5)<|af<|cX (pv 6)<|pv 7)
   (ak<|aC gu)
   bc)
   (a9 (av 8<|aP zJ (by rfl) B.len Bh<|af<|df (wY (K:=K) rfl rfl) (by rfl) B.set_ Bk<|af (cb (loc:=["_law_label"]) (cap:=[]) rfl (by o_readsAll)  (dt<|pv 6) (λa a a a=>(aw 0)) (λa a a a=>(g9<|aZ su (pv 0) eC<|aY _)) λa a a a=>(pv 0)))
   (ak<|aC<|ar ql<|aa (cP o5 (pv 0) kL.c (hr.mono (by decide))<|af<|pv 5)<|af<|pv 8)))))),
  λa=>BV.cast (aG 5 (EV.cast (aF<|am (ai 1 rfl)<|au<|aF<|am (ai 3 rfl)<|am (ai 4 rfl)<|au<|iY (v:=1000000000) aq aq (by decide)) as2) λheight_here2=>(aG 6 ((aR<|am (ai 1 rfl)<|am (ai 2 rfl)<|au<|ai 5 rfl)).ev λlabels_here4=>(aG 7 (aF<|am de<|am (br cF aq)<|au<|iw (dB aJ jy) aq) λcell6=>(cD (fk<|gG<|EV.cast (aF<|am (j2 vt (ai 0 rfl)<|am (ai 7 rfl)<|au<|ai 5 rfl)<|au<|bu aJ (ai 6 rfl)<|ai 7 rfl) as2)
  (cI<|b9 gz)
  (be (aG 8 (ev_lenZ<|ev_mset ((dC (aM aJ<|ai 6 rfl) (by decide) (by decide) (aH 0) (λy11=>(c5<|sU (ai 0 rfl) kJ)) λy11=>(mJ<|ai 0 rfl))).ev) λmany14=>(b9<|EV.cast (aF<|am (cH<|j2 vt (ai 0 rfl)<|au<|ai 5 rfl)<|au<|cH<|ai 8 rfl) as2))))))) (by unfold gk;o_reads)⟩
def ok_law{f:Wy}{fd:Vm}(F:Fun K "law" "law" mz f fd)(hl:∀ns:List Int,ns.length<=63->mj ns=Wb Wd):FnOk P w K mg base sH 15 f fd ["_law_script"] (wR K):=by
 have nd:=CS.nd;refine F.law (fl:=mj) CS rfl hl λf ZP A outer s H E hr=>?_;have hu:=jd hr;exact⟨_,(a9 (av 1<|ar CT<|aa (pv 0)<|af aj)
   (a9 (av 2<|cX (cL<|aa aj<|af aj)<|az dk (ar jb<|aa (pv 0)<|af aj) aj)
   (a9 (fP (loc:=["_law_row"]) (cap:=[]) (i:=3) rfl (by o_readsAll) nd rfl (Or.inl rfl) (dt<|pv 1) (λy y y y=>(aw 0)) (λy y y y=>bQ) λy y y y=>(df (fQ (K:=K) rfl) (by rfl) B.list_ fY<|af<|pv 0))
   (j3 (x:="#_law_handed") 12 (a9 (av 4<|Ck iP (hr.mono (by decide)) rfl<|aa (pv 3)<|af<|pv 2)
   (a9 (cC (aZ jn (az dk (ar jb<|aa (pv 0)<|af aj) aj) aj<|aY _)
   (ak<|av 4<|Ac iP (hr.mono (by decide)) rfl<|af<|pv 3)
   bc)
   (a9 (cC (aZ (ot (K:=K) rfl hr.units) (pv 3) (pv 1)<|aY _)
   (ak<|aC gu)
   bc)
   (a9 (kB (az bq (cX (cX (pv 3) aj) aj) aj)<|kA (cX (pv 3) aj) aj set_list)
   (a9 (cZ<|gq (K:=K) rfl W6 T2 T3 cM (pv 3)<|af<|df (fQ (K:=K) rfl) (by rfl) B.list_ fY<|af<|cX (pv 1) aj)
   (a9 (av 5<|ar ok_tree<|aa (pv 1)<|af<|pv 2)
   (a9 (av 6<|cL eQ)
   (a9 (c0 X9 rfl (jK rfl B.range<|af aj) (aw 7)
   (a9 (ps_par3 rfl nd rfl rfl rfl (by decide) rfl rfl rfl (aa (mV mB (pv 4) kL.c<|hr.mono (by decide))<|aa (mV qP (pv 4) kL.c<|hr.mono (by decide))<|af<|mV qk (pv 4) kL.c<|hr.mono (by decide)) rfl)
   (j3 (x:="#_law_now") 13 (j3 (x:="#_law_levels") 14 (a9 (cC (PW.pt<|kg (fg<|cK<|ar rT<|aa (pv 8)<|af<|pv 1)<|kg (fg<|cK<|ar Aw<|aa (pv 9)<|af<|pv 5)<|jm<|fg<|cK<|ar rT<|aa (pv 10)<|af<|ar rS<|aa (pv 1)<|af<|pv 2)
   (ak<|aC gu)
   bc)
   (a9 (kB (az bq (cX (cX (pv 8) aj) aj) aj)<|kA (cX (pv 8) aj) aj set_list)
   (a9 (cZ<|gq (K:=K) rfl W6 T2 T3 cM (pv 9)<|af<|gp<|aa aj<|aa aj<|af aj)
   (a9 (cZ<|og (K:=K) rfl W6 PySem.F.slot_list_clear PySem.F.type_list_clear uo<|cX (pv 10)<|xP sk aj)
   (a9 (cZ<|og (K:=K) rfl W6 PySem.F.slot_list_clear PySem.F.type_list_clear uo<|pv 10)
   (a9 (cZ<|gq (K:=K) rfl W6 T2 T3 cM (pv 6)<|af<|cL<|aa (pv 8)<|aa (cb (loc:=["_law_row"]) (cap:=[]) rfl (by o_readsAll)  (dt<|pv 8) (λy y y y=>(aw 0)) (λy y y y=>bQ) λy y y y=>(df (fQ (K:=K) rfl) (by rfl) B.list_ fY<|af<|pv 0))<|aa (pv 9)<|aa (df (fQ (K:=K) rfl) (by rfl) B.list_ fY<|af<|pv 9)<|aa (pv 10)<|af<|cL eQ)
   (ak (cC (PW.pt<|kg (fg<|cK<|ar vY<|aa (pv 4)<|aa (pv 1)<|aa (pv 2)<|aa (pv 0)<|af<|az bq aj<|pv 7)<|jm<|fg<|cK<|ar vY<|aa (pv 4)<|aa (pv 1)<|aa (pv 2)<|aa (pv 0)<|af<|az bq aj<|pv 7)
   (ak<|aC gu)
   bc)))))))) rfl (show fJ (ao mz) "#_law_levels"=Wd by decide +kernel)) rfl (show fJ (ao mz) "#_law_now"=Wd by decide +kernel))))
   (a9 (c0 X9 rfl (dt<|pv 6) (aw 11)
   (ak (cC (PW.pt<|kg (aZ (ot (K:=K) rfl hr.units) (cX (pv 11) aj) (cX (pv 11) aj)<|aY _)<|kg (aZ (ot (K:=K) rfl hr.units) (cX (pv 11) aj) (cX (pv 11) aj)<|aY _)<|jm<|aZ (ot (K:=K) rfl hr.units) (cX (pv 11) aj) (cX (pv 11) aj)<|aY _)
   (ak<|aC gu)
   bc)))
   (ak<|aC gu)))))))))) rfl (show fJ (ao mz) "#_law_handed"=Wd by decide +kernel))))),
  λa=>BV.cast (aG 1 ((aR<|am (ai 0 rfl)<|au aq)).ev λfloor_here1=>(aG 2 (bu aJ ((cf<|bg aq<|bg aq ce)).ev (ft (aF<|am aA<|au aq) aq (by decide))) λreach5=>(vx 3 12 ⟨by decide,(show 3<15 by decide),(show 12<15 by decide)⟩ (uY C1 (aM aJ aI) (by decide) (by decide) (aH 0) λy7=>(evg_l yE<|lM aJ aA)) λq9 rows11 row10 hr13=>(aG 4 ((vw 3 12 rfl rfl (by decide)<|Ab<|am (ai 3 rfl)<|au<|ai 2 rfl)).ev λland15=>(yt (Γj:=λ(s19:(List (List Int) × Int))=>[.fr (mH K) (a),.fr (rL<|rL a7) (floor_here1),.fr a7 (reach5),.ol (rQ q9) jj (qs (rows11)<|0),.fr (i3 CL) (s19),.any,.any,.any,.any,.any,.any,.any,.ol a7 (λb=>b=q9) (row10),.any,.any]) (aU (cD (c5<|hE ik (ft (aF<|am aA<|au aq) aq (by decide)) aq)
  (aG 4 ((vw 3 12 rfl rfl (by decide)<|xB<|au<|ai 3 rfl)).ev λland21=>(lQ (land21)<|dJ<|fj<|aQ<|aQ<|aQ<|aQ<|aQ<|aQ<|aQ<|fj<|aQ<|aQ .nil))
  (be<|lQ (land15)<|dJ<|fj<|aQ<|aQ<|aQ<|aQ<|aQ<|aQ<|aQ<|fj<|aQ<|aQ .nil))) λs19=>(cD (tI 3 12 rfl rfl (by decide)<|c5<|t5 (dL<|dL dInt) de aI)
  (cI<|b9 gz)
  (be (mM 12 (Cm 3 12 rfl rfl<|q_ne hr13) rfl aq (yG 3 12 rfl rfl (by decide) cn<|br (bu aJ (bu aJ de aq) aq) aq) λrow25=>(xC 3 rfl ((lM aJ<|bu aJ (ai 1 rfl) aq)).ev (aG 5 ((aR<|am (ai 1 rfl)<|au<|ai 2 rfl)).ev λdue28=>(dO 6 (cf (r:=(rHA<|ay (rL<|rL a7)<|ay (rL<|rL a7)<|ay (rL<|qp a7 (b8 a7)<|b8 a7)<|ay (rL<|qp a7 (b8 a7)<|b8 a7)<|ay (rL<|rL a7)<|bo<|rL<|rL a7)) ce) λheld30=>(lT (Γf:=λ(s32:(List<|((List<|List<|Int)×(List<|List<|Int)×(List<|(Int×(Option<|Int)×(Option<|Int)))×(List<|(Int×(Option<|Int)×(Option<|Int)))×(List<|List<|Int)×(List<|List<|Int))))=>[.fr (mH K) (a),.fr (rL<|rL a7) (floor_here1),.fr a7 (reach5),.any,.fr (i3 CL) (s19),.fr (rL<|qp a7 (b8 a7)<|b8 a7) (due28),.ol (rHA<|ay (rL<|rL a7)<|ay (rL<|rL a7)<|ay (rL<|qp a7 (b8 a7)<|b8 a7)<|ay (rL<|qp a7 (b8 a7)<|b8 a7)<|ay (rL<|rL a7)<|bo<|rL<|rL a7) jj (s32),.any,.any,.any,.any,.any,.ol a7 (λb=>b=q9) (row25),.any,.any]) (rf:=nT aX) (e:=(λx=>x)) (held30) (oq aq) (gA<|fj<|aQ<|fj<|fj<|fj<|aQ<|aQ<|aQ<|aQ<|aQ<|fj<|aQ<|aQ .nil) (λy=>(aH 7))
  (λs32 x31=>(bv_seq3 8 9 10 13 14 4 (by decide) (by decide) Cp mono_L Cp (vx 8 13 ⟨by decide,(show 8<15 by decide),(show 13<15 by decide)⟩ (rH vt cF) λq34 rows36 row35 hr38=>(dO 9 (Ad vt cF) λtree_here39=>(Co 10 14 ⟨by decide,(show 10<15 by decide),(show 14<15 by decide)⟩ (rH vt cF) λq42 rows44 row43 hr46=>(cD (tI 10 14 rfl rfl (by decide)<|kK 9 rfl<|tI 8 13 rfl rfl (by decide)<|uG (fk<|gG<|aF<|am i0<|au aI)<|uG (fk<|gG<|aF<|am (ai 9 rfl)<|au eA)<|fk<|gG<|EV.cast (aF<|am (ai 10 rfl)<|au<|ev_leR (le_ld<|le_ln C2) ((iF<|am (ai 1 rfl)<|au<|ai 2 rfl)).ev) as2)
  (cI<|jQ<|b9 gz)
  (be (mM 13 (Cm 8 13 rfl rfl<|q_ne hr38) rfl aq (yG 8 13 rfl rfl (by decide) cn<|br (bu aJ (bu aJ i0 aq) aq) aq) λrow55=>(dh 9 rfl (ev_tup3 aq (cH aq)<|cH aq) λtree_here58=>(A6 14 (own_ql 10 14 rfl rfl rfl<|q_ne hr46) rfl (Ae 10 14 rfl (bv_frzQ 8 13 rfl rfl (by decide) (bv_sub (gA<|fj<|aQ<|fj<|fj<|fj<|fj<|fj<|.cons .frz<|.cons .frz<|aQ<|fj<|aQ<|fj .nil) (dh 6 rfl (ev_lstA (λy=>Nat.le_of_ble_eq_true rfl)<|am i0<|am ((cu (aM aJ<|ai 8 rfl) (by decide) (by decide) (aH 0) λy60=>((lM aJ<|ai 0 rfl)).ev)).ev (am (ai 9 rfl)<|am ((lM aJ<|ai 9 rfl)).ev (am (ai 10 rfl)<|au ((cf (r:=(rL a7)) ce)).ev))) λheld62=>(aU (cD (uG (fk<|gG<|aF<|am cF<|am aI<|am bp<|am aA<|au<|br aq gf)<|fk<|gG<|aF<|am cF<|am aI<|am bp<|am aA<|au<|br aq gf)
  (cI<|jQ<|b9 gz)
  (be<|ju (held62)<|gA<|fj<|aQ<|fj<|fj<|fj<|aQ<|aQ<|aQ<|aQ<|aQ<|fj<|aQ<|aQ .nil)))))))))))))))))
  rfV (λy y y h=>h) λs32=>(uL (Γf:=λ(p72:Wy) (s72:Unit)=>[.fr (mH K) (a),.fr (rL<|rL a7) (floor_here1),.fr a7 (reach5),.any,.fr (i3 CL) (s19),.fr (rL<|qp a7 (b8 a7)<|b8 a7) (due28),.ol (rHA<|ay (rL<|rL a7)<|ay (rL<|rL a7)<|ay (rL<|qp a7 (b8 a7)<|b8 a7)<|ay (rL<|qp a7 (b8 a7)<|b8 a7)<|ay (rL<|rL a7)<|bo<|rL<|rL a7) (λb=>b=p72) (s32),.any,.any,.any,.any,.any,.ol a7 (λb=>b=q9) (row25),.any,.any]) (rf:=nT aX) (e:=(λx=>x)) (()) 6 rfl (λp72=>(gA<|fj<|aQ<|fj<|fj<|fj<|aQ<|aQ<|aQ<|aQ<|aQ<|fj<|aQ<|aQ .nil)) (λy y=>rfl) (λy y=>(aH 11))
  (λp72 s72 x71=>(aU (cD (mO (c5<|t5 (dL<|dL dInt) (mW 0 Cq<|ai 11 rfl)<|mW 1 (kP Cq)<|ai 11 rfl)<|mO (c5<|t5 (dL<|dT3 dInt dOp dOp) (mW 2 (kP<|kP Cq)<|ai 11 rfl)<|mW 3 (kP<|kP<|kP Cq)<|ai 11 rfl)<|c5<|t5 (dL<|dL dInt) (mW 4 (kP<|kP<|kP<|kP Cq)<|ai 11 rfl)<|mW 5 (kP<|kP<|kP<|kP<|kP ixA1)<|ai 11 rfl)
  (cI<|jQ<|b9 gz)
  (be<|ju (())<|gA<|fj<|aQ<|fj<|fj<|fj<|aQ<|aQ<|aQ<|aQ<|aQ<|fj<|aQ<|aQ .nil))))
  rfV (λy y y h=>h) λp72 s72=>(b9 gz)))))))))))))) (by unfold mj;first|(simp only[Pu.bs];done)|(simp only[Pu.bs,rV];done)|(simp only[Pu.bs,rV];rfl))⟩
end
open Fl Pu Gr Pf K06
section
variable {nb:ZG}{Wm:ZH}{n:Nat}{lab:Nat->Option Int}
def Ay(hnb:∀i o,o∈nb i->o<n)(sy:∀a b,a<n->b∈nb a->a∈nb b)(h0:∀x,x<n->Wm x=We->lab x=Wc)(h1:∀x,x<n->Wm x=Wd->∃r,lab x=Wb r)(h2:∀x y,x<n->y<n->Wm x=Wd->Wm y=Wd->(lab x=lab y↔Rch (λa b=>b∈nb a) (λa=>Wm a=Wd) x y))(i:Nat)(hi:i<=n):
  (oA<|(Z9 i).filterMap lab).length=(upto nb Wm n i).1.length/\∀y,y∈(upto nb Wm n i).2↔∃j,j<i/\Wm j=Wd/\Rch (λa b=>b∈nb a) (λa=>Wm a=Wd) j y:=by
 induction i with
 |zero=>exact⟨rfl,λy=>⟨λz=>(nomatch z),λ⟨_,z,_⟩=>VR z<|M6 _⟩⟩
 |succ i ih =>
  obtain⟨a,b⟩:=ih<|cj hi;have hin:i<n:=hi;rw[Ap,List.range_succ,List.filterMap_append];cases q:Wm i with
  |false =>
   have e1:[i].filterMap lab=[]:=by rw[List.filterMap_cons_none (h0 i hin q)];rfl
   have e2:more nb Wm n (upto nb Wm n i) i=upto nb Wm n i:=VQ λz=>VR (q.symm.trans z.1) Z3;rw[e1,e2,V2];refine⟨a,λy=>(b y).trans ⟨λ⟨j,z,w⟩=>⟨j,T6 z,w⟩,λ⟨j,z,w⟩=>?_⟩⟩;rcases E4.mp z with v|v
   ·exact⟨j,v,w⟩
   ·rw[v]at w;exact VR (q.symm.trans w.1) Z3
  |true =>
   obtain⟨r,hr⟩:=h1 i hin q;have e1:[i].filterMap lab=[r]:=by rw[List.filterMap_cons_some hr];rfl
   have e3:oA ((Z9 i).filterMap lab++[r])=hJ (oA<|(Z9 i).filterMap lab) r:=by unfold oA;rw[List.foldl_append];rfl
   have mr:r∈oA ((Z9 i).filterMap lab)↔i∈(upto nb Wm n i).2:=by
    unfold oA;rw[yV,b i]
    constructor
    ·rintro(z|z)
     ·cases z
     ·obtain⟨j,hj,ej⟩:=List.mem_filterMap.mp z;have hj:=R4.mp hj;have hjn:=fD hj hin;cases qj:Wm j with
      |false=>rw[h0 j hjn qj]at ej;cases ej
      |true=>exact⟨j,hj,qj,(h2 j i hjn hin qj q).mp (ej.trans hr.symm)⟩
    ·rintro⟨j,hj,qj,w⟩;exact .inr<|List.mem_filterMap.mpr ⟨j,R4.mpr hj,((h2 j i (fD hj hin) hin qj q).mpr w).trans hr⟩
   have an:(oA<|(Z9 i).filterMap lab).any (·==r)=Wd↔r∈oA ((Z9 i).filterMap lab):=by rw[J8];exact⟨λ⟨x,hx,e⟩=>(eq_of_beq e)▸hx,λh=>⟨r,h,beq_self_eq_true r⟩⟩
   rw[e1,e3];by_cases w:i∈(upto nb Wm n i).2
   ·have e2:more nb Wm n (upto nb Wm n i) i=upto nb Wm n i:=VQ λz=>z.2 w;rw[e2,show hJ (oA<|(Z9 i).filterMap lab) r=oA ((Z9 i).filterMap lab) from VP<|an.mpr<|mr.mpr w];refine⟨a,λy=>(b y).trans ⟨λ⟨j,z,w⟩=>⟨j,T6 z,w⟩,λ⟨j,z,v1,v2⟩=>?_⟩⟩;rcases E4.mp z with v|v
    ·exact⟨j,v,v1,v2⟩
    ·subst v;obtain⟨j',z',v1',v2'⟩:=(b j).mp w;exact⟨j',z',v1',v2'.trans v2⟩
   ·have e2:more nb Wm n (upto nb Wm n i) i=((upto nb Wm n i).1++[whole nb Wm n i],(upto nb Wm n i).2++whole nb Wm n i):=VP ⟨q,w⟩;rw[e2,show hJ (oA<|(Z9 i).filterMap lab) r=oA ((Z9 i).filterMap lab)++[r] from VQ λz=>w<|mr.mp<|an.mp z];refine⟨by rw[X4,X4,a];rfl,λy=>?_⟩;rw[Y9,b y,iL hnb hin]
    constructor
    ·rintro(⟨j,z,v⟩|z)
     ·exact⟨j,T6 z,v⟩
     ·exact⟨i,V3 i,q,z⟩
    ·rintro⟨j,z,v1,v2⟩;rcases E4.mp z with v|v
     ·exact .inl ⟨j,v,v1,v2⟩
     ·subst v;exact .inr v2
end
def fm_id:∀L:List (Option Int),(L.filter λy=>y.isSome).map (λy=>y.getD 0)=L.filterMap id:=by
 intro L;induction L with
 |nil=>rfl
 |cons a L ih =>
  cases a with
  |none=>exact ih
  |some a=>exact congrArg (a :: ·) ih
def qo(a:ZK):gh a a=Wb Wd:=by
 cases a with
 |none=>rfl
 |some a=>unfold gh;simp
def vZ(l:List (Int×Option Int×Option Int)):iG l l=Wb Wd:=by unfold iG;rw[VQ (by simp),gK];rintro⟨a,b⟩ hp;have e:a=b:=qb hp;subst e;exact bj ((VQ Z3).trans (bj (ku _) rfl)) rfl
def nP(l:ZX):gX l l=Wb Wd:=by unfold gX;rw[VQ (by simp),gK];rintro⟨a,b⟩ hp;have e:a=b:=qb hp;subst e;exact bj (bj (ku _) rfl) rfl
def set_same{α:Type}{l:List α}{i:Nat}{a:α}(h:l[i]?=Wb a):l.set i a=l:=by
 apply N0;intro j;by_cases e:i=j
 ·subst e;rw[h,N5 (Z6.mp h).1]
 ·rw[P9 e]
section
variable {ZZ:ZX}{c:Nat}{Wf:Int}{os:ZT}
def by_num(hpos:0<ZZ.length)(hc:0<c)(hc1:c<=1000)(hm1:ZZ.length<=1000)(h:∀r∈ZZ,r.length=c)(ZQ:ZZ.length*c<64):bD ZZ=Wb ZZ.flatten:=by
 have ZR:ZZ.flatten.length=ZZ.length*c:=bE h;unfold bD;rw[db hpos hc1 hm1 h,bs,bX (g:=λy=>eZ ZZ c y.toNat) (by rw[bz,X1];exact cj<|fD ZQ (by decide)) λy hy=>?_]
 ·congr 1;unfold cl;rw[V4,CP hc h];rfl
 ·obtain⟨x,hx,rfl⟩:=fW.mp hy;rw[dU hc hc1 h (R4.mp hx),W4]
def copy_eq(hpos:0<ZZ.length)(hc:0<c)(hc1:c<=1000)(hm1:ZZ.length<=1000)(h:∀r∈ZZ,r.length=c)(ZQ:ZZ.length*c<64):jX ZZ=Wb ZZ :=
 bj (dH hpos h) (bj (by_num hpos hc hc1 hm1 h ZQ)<|(K27.vW hm1 hc1).trans (congrArg Wb<|K27.chunk h))
def asked_h(hp:0<ZZ.length)(hc:0<c)(h:∀r∈ZZ,r.length=c)(v:Int):∃x,iH ZZ v=Wb x:=by
 obtain⟨i,hi,li⟩:=tL v (k:=ln ZZ)<|U5.mpr hp;have li:i<ZZ.length:=U5.mp li;have hl:ZZ[i].length=c:=h _<|E9 li;have lp:0<ln ZZ[i]:=by unfold ln;rw[hl];exact U5.mpr hc
 obtain⟨j,hj,lj⟩:=tL (v/12) lp;have lj:j<ZZ[i].length:=U5.mp lj;obtain⟨q,hq,lq⟩:=tL (v/144) (k:=7) (by decide);have lq:q<7:=U5.mp lq;unfold iH;rw[io (show 0<ln ZZ from U5.mpr hp),hi,bs,c7,Z7 li,bs,io lp,hj,bs,c7,Z7 lj,bs,bs,hq,c7];exact⟨_,Z7 (show q<[_,_,_,_,_,_,_].length from lq)⟩
def CU(ns:ZW)(hp:0<ZZ.length)(hc:0<c)(Wl:c<=100)(hm:ZZ.length<=100)(h:∀r∈ZZ,r.length=c)(hn:ZZ.length*c<64)(eo:dF ZZ=Wb (cl os))(o:Ord ZZ.flatten os)(k:Nat)(hk:k<=100):gk (ZZ,Wf) ZZ Wf ns (k:Int)=Wb Wd:=by
 have fl:ZZ.flatten.length=ZZ.length*c:=bE h;have c9:c<=900:=aO Wl (by decide);have m9:ZZ.length<=900:=aO hm (by decide);have c1:c<=1000:=aO Wl (by decide);have m1:ZZ.length<=1000:=aO hm (by decide);have inj:∀x y,x<ZZ.length*c->y<ZZ.length*c->rk os x=rk os y->x=y:=λx y hx hy=>o.inj x y (by rw[fl];exact hx) (by rw[fl];exact hy);obtain⟨v,ev,_⟩:=fB ns (k:=k) (aO hk (by decide)) (top:=1000000000) (by decide);obtain⟨Wp,eh⟩:=asked_h hp hc h v;obtain⟨_,lk,hk'⟩:=yU hc h o Wp;obtain⟨M,Wi,par,em,okM,u⟩:=vV (Wf:=Wf) hp hc c1 m1 h hn o eo Wp;generalize eK:(os.filter λy=>decide<|eZ ZZ c y<=Wp).length=K at *;have ex:∀x,Lv (ZZ.length*c) (rk os) K x->∃r,Fst (Nb ZZ.length c Wf) (ZZ.length*c) (rk os) K x r:=λx l=>by obtain⟨s,hs⟩:=u.has x l;obtain⟨r,_,f⟩:=u.liv x s hs;exact⟨r,f⟩
 obtain⟨L,el,okL⟩:=tV (H:=eZ ZZ c) (Wf:=Wf) (Wp:=Wp) hp hc c9 m9 h hn o (λx hx=>jF hc h hx) hk' ex;have okL':n8 (Nb ZZ.length c Wf) (ZZ.length*c) (rk os) K K L:=⟨okL.1,λx hx=>⟨(okL.2 x hx).1,λr l f=>by rw[(okL.2 x hx).2 r l f,VP (cW f.lv.2 lk),VP f.lv.2]⟩⟩
 have e:M=L:=okM.uniq okL' ex;subst e;have ll:M.length=ZZ.length*c:=okL.1;have np:0<ZZ.length*c:=Nat.mul_pos hp hc;have tp:(0:Int)<=ln M-1:=by have:(1:Int)<=((M.length:Nat):Int):=M4.mpr<|ll.symm▸np;exact Int.sub_nonneg.mpr this
 obtain⟨cell,ec,q0,q1⟩:=fB ns (k:=k+20) (aO (Nat.add_le_add_right hk 20) (by decide)) tp;obtain⟨z,rfl⟩:=D2 q0;have hz:z<M.length:=U5.mp<|G7 q1<|Int.sub_lt_self _ (by decide);have ea:Pu.at_ M (z:Int)=Wb M[z]:=c7.trans<|Z7 hz;have lab1:∀x,x<ZZ.length*c->decide (eZ ZZ c x<=Wp)=Wd->∃r,Fst (Nb ZZ.length c Wf) (ZZ.length*c) (rk os) K x r/\M[x]?=Wb (Wb (r:Int)):=λx hx q=>by have l:Lv (ZZ.length*c) (rk os) K x:=⟨hx,(hk' x hx).mpr (of_decide_eq_true q)⟩;obtain⟨r,f⟩:=ex x l;exact⟨r,f,by rw[(okM.2 x hx).2 r l f,VP f.lv.2]⟩
 have eM:M=(Z9<|ZZ.length*c).map λx=>(M[x]?).getD Wc:=by
  apply N0;intro x;by_cases hx:x<ZZ.length*c
  ·rw[Y3,Q4 hx];show _=Wb ((M[x]?).getD Wc);rw[Z7 (ll.symm▸hx)];rfl
  ·rw[T0 (by rw[ll];exact W5.mp hx),T0 (by rw[Z5,X1];exact W5.mp hx)]
 have cnt:=(Ay (nb:=gE ZZ.length c Wf) (Wm:=λy=>decide<|eZ ZZ c y<=Wp) (n:=ZZ.length*c) (lab:=λx=>(M[x]?).getD Wc) vU nb_sy
  (λx hx q=>by rw[(okM.2 x hx).1 λl=>VR (VU<|(hk' x hx).mp l.2) (by rw[q];exact Z3)];rfl)
  (λx hx q=>by obtain⟨r,_,e⟩:=lab1 x hx q;exact⟨r,by rw[e];rfl⟩)
  (λx y hx hy qx qy=>by
   obtain⟨r,fx,e1⟩:=lab1 x hx qx;obtain⟨r',fy,e2⟩:=lab1 y hy qy;have lx:Lv (ZZ.length*c) (rk os) K x:=⟨hx,(hk' x hx).mpr (of_decide_eq_true qx)⟩;have ly:Lv (ZZ.length*c) (rk os) K y:=⟨hy,(hk' y hy).mpr (of_decide_eq_true qy)⟩;rw[K36.tU hk' hx,e1,e2]
   constructor
   ·intro z;have z:r=r':=Int.ofNat.inj<|Z4 z;subst z;exact fx.rch.trans (fy.rch.symm Nb.sy ly)
   ·intro z;rw[(Fst.of_rch Nb.sy lx z fx).same inj fy]) (ZZ.length*c) (bW _)).1
 have e5:bJ (λ(y11:Zn)=>Wb<|y11.isSome) (λ(y11:Zn)=>y11) M=Wb ((Z9<|ZZ.length*c).filterMap λx=>(M[x]?).getD Wc):=by
  have sm:∀y:Option Int,y∈M->y.isSome=Wd->y=Wb (y.getD 0):=λy a hy=>by
   cases y with
   |none=>cases hy
   |some y=>rfl
  rw[fV (p:=λ(y:ZK)=>y.isSome) (g:=λ(y:ZK)=>y.getD 0) (by rw[ll];exact aO (cj hn) (by decide)) (λa a=>rfl) sm];rw[fm_id]
  conv=>lhs;rw[eM]
  rw[List.filterMap_map];rfl
 have ml:((Z9<|ZZ.length*c).filterMap λx=>(M[x]?).getD Wc).length+1<4096:=dM (Nat.add_le_add_right (aO (List.length_filterMap_le _ _) (by rw[X1];exact cj hn)) 1) (by decide);have e6:dR ZZ Wf Wp=_:=tS (h:=Wp) hp hc Wl hm h hn;unfold gk;refine bj (bj ev eh)<|bj el<|bj ec<|bj (bj (bj (bj em ea)<|bj ea<|qo _) rfl)<|(VQ Z3).trans (bj (bj (bj e5<|VP ml) rfl)<|bj (bj (bj e6 rfl) rfl) ?_);have:ln ((upto (gE ZZ.length c Wf) (λy=>decide<|eZ ZZ c y<=Wp) (ZZ.length*c)<|ZZ.length*c).1.map cl)=ln (oA ((Z9<|ZZ.length*c).filterMap λx=>(M[x]?).getD Wc)):=by unfold ln;rw[Z5,cnt]
 rw[this];exact qo _
end
def Sm(t:List (List Int)×List (List Int)×List (Int×Option Int×Option Int)×List (Int×Option Int×Option Int)×List (List Int)×List (List Int)):Prop:=t.1=t.2.1/\t.2.2.1=t.2.2.2.1/\t.2.2.2.2.1=t.2.2.2.2.2
def holds(ns:ZW)(_:ns.length<=63):mj ns=Wb Wd:=by
 obtain⟨ZZ,c,e,S⟩:=vR ns (most:=60) (by decide) (by decide);have c9:c<=900:=aO S.cmost (by decide);have m9:ZZ.length<=900:=aO S.most12 (by decide);have c1:c<=1000:=aO S.cmost (by decide);have m1:ZZ.length<=1000:=aO S.most12 (by decide);have cc:c<=100:=aO S.cmost (by decide);have mm:ZZ.length<=100:=aO S.most12 (by decide);have ZQ:ZZ.length*c<64:=dM S.area (by decide);have n1:ZZ.length*c<=144:=aO S.area (by decide);have fl:ZZ.flatten.length=ZZ.length*c:=bE S.row;have ca:=kU ns 1;rw[show ((1:Nat):Int)=1 from rfl]at ca;have hr:∃r:Int,(((gJ ns 1).bind λx3=>Wb<|x3%2).bind λx4=>Pu.at_ ([4,8]) x4)=Wb r/\(cellAt ns 1%4=0->r=4):=by
  rw[ca,bs,bs];rcases Int.emod_two_eq (cellAt ns 1) with z|z<;>rw[z]
  ·exact⟨4,rfl,λb=>rfl⟩
  ·exact⟨8,rfl,λw=>by omega⟩
 obtain⟨Wf,er,r4⟩:=hr;obtain⟨os,Wi,par,eo,o,u,et,_⟩:=xG (Wf:=Wf) S.pos S.cpos c1 m1 S.row ZQ;have inj:∀x y,x<ZZ.length*c->y<ZZ.length*c->rk os x=rk os y->x=y:=λx y hx hy=>o.inj x y (by rw[fl];exact hx) (by rw[fl];exact hy);obtain⟨h2,p2,u2,t2⟩:=xK (Wf:=Wf) S.pos S.cpos c9 m9 S.row n1 o;rw[show h2=Wi from funext λx=>u2.home_eq inj u x,show p2=par from funext λx=>u2.par_eq inj u x,<- xL (fl▸ZQ)]at t2;have tl:(trL par (os.filter λx=>decide<|Wi x=Wb x)).length<=1000000:=by unfold trL;rw[Z5];exact aO (W8 _ _) (by rw[o.len,fl];exact aO (cj ZQ) (by decide))
 have et':gW ZZ Wf=Wb (trL par (os.filter λx=>decide<|Wi x=Wb x)):=(Ar ZZ Wf).trans et;generalize trL par (os.filter λx=>decide<|Wi x=Wb x)=T at *;obtain⟨lv,ef,ll⟩:=As (Wf:=Wf) S;obtain⟨r0,g0⟩:∃r,ZZ[0]?=Wb r:=⟨_,Z7 S.pos⟩;have s0:ZZ.set 0 r0=ZZ:=set_same g0;obtain⟨lr,gl⟩:∃r,lv[lv.length-1]?=Wb r:=⟨_,Z7<|Nat.sub_lt (ll.symm▸S.pos) (by decide)⟩;have sl:lv.set (lv.length-1) lr=lv:=set_same gl;have l0:0<r0.length:=by rw[S.row _ (X6 g0)];exact S.cpos
 obtain⟨x0,gx⟩:∃r,r0[0]?=Wb r:=⟨_,Z7 l0⟩;have ec:jX ZZ=Wb ZZ:=copy_eq S.pos S.cpos c1 m1 S.row ZQ;have ecl:mf ZZ=Wb ZZ:=ec;have ei:∀rs:List (List Int),rs.length=ZZ.length->Pu.comp (λ(y:List (Int))=>Wb<|y) rs=Wb rs:=λrs h=>by rw[bX (g:=λy=>y) (by rw[h];exact aO m9 (by decide)) λb b=>rfl,List.map_id']
 have eh:((Pu.at_ ZZ 0).bind λx23=>Pu.at_ x23 0)=Wb x0:=bj ((c7 (i:=0)).trans g0)<|(c7 (i:=0)).trans gx;have eix:k9 r0.length 0=Wb 0:=mw (i:=0) l0;have ask:=λk hk=>CU (Wf:=Wf) ns S.pos S.cpos cc mm S.row ZQ eo o k hk;unfold mj;refine bj e<|bj er<|bj (ei ZZ rfl)<|bj g0 ?_;rw[s0];refine bj (bj ecl rfl)<|bj (a:=(ZZ,Wf)) ?_ ?_
 ·refine bj (bj (bj ca rfl) rfl) ?_;by_cases q:cellAt ns 1%4=0
  ·rw[VP (VU q)];rw[r4 q];exact bj (bj ecl rfl) rfl
  ·rw[VQ (by rw[VW q];exact Z3)]
 ·refine(VQ (by rw[VU rfl];exact Z3)).trans (bj (bj eh rfl)<|bj eix<|bj ((c7 (i:=0)).trans g0)<|bj (i8<|aO m9 (by decide))<|bj t2<|bj (jE (n:=2) (by decide)) ?_);refine Ag (λi s=>s.length=i/\∀t∈s,Sm t) ⟨rfl,λb z=>nomatch z⟩ ?_ ?_
  ·intro i x s hx I;obtain⟨hi,ex⟩:=vC hx;subst ex;refine⟨s++[(ZZ.set 0<|r0.set 0<|x0+1,ZZ.set 0 (r0.set 0<|x0+1),T++[(0,Wb 0,Wb 0)],T++[(0,Wb 0,Wb 0)],[],[])],bj ec<|bj g0<|bj et'<|bj ef<|bj gl ?_,by rw[X4,I.1];rfl,?_⟩
   ·have a1:gk (ZZ,Wf) ZZ Wf ns (2+(i:Int))=Wb Wd:=(M9 2 i)▸ask (2+i) (by omega);have a2:gk (ZZ,Wf) ZZ Wf ns (9+(i:Int))=Wb Wd:=(M9 9 i)▸ask (9+i) (by omega);rw[s0,sl];refine bj (a:=We) (bj (bj (nP _) rfl)<|(VQ Z3).trans (bj (bj (vZ _) rfl)<|(VQ Z3).trans (bj (bj ef<|nP _) rfl)))<|(VQ Z3).trans (bj (bj eh rfl)<|bj eix ?_);exact bj (i8 tl)<|bj (bj (ei _<|T1 ..) rfl)<|bj (i8 (by rw[I.1];omega))<|bj (bj (bj a1 rfl)<|(VQ Z3).trans (bj a2 rfl))<|VQ Z3
   ·intro t ht;rcases Y9.mp ht with z|z
    ·exact I.2 t z
    ·rw[Y0.mp z];exact⟨rfl,rfl,rfl⟩
  ·intro s I;rw[gK];intro t ht;obtain⟨q1,q2,q3⟩:=I.2 t ht;exact VQ (by rw[VU q1,VU q2,VU q3];exact Z3)
abbrev kn:Kon:=(konL [(89,(("earliest_of":Str)++".<locals>.")++"<lambda>"),(96,(("in_order":Str)++".<locals>.")++"<lambda>")])
def Fd(w:WB)(K:Z1)(mg:ZM)(fa:Wy):Prop:=∃fd:Vm,(∀(s:Ww) (v:Wx),BindsTo s fd ⟨[v],[]⟩ [("_law_script",v)])/\(∀P∈kn.T,∃c,PySem.W.codeHdIn K c P=Wd)/\∀base:WD,K.In base->base.Ns S6 mg->BM mg base->FnOk PySem.Challenge.pw_floodtree_k31_land_answers w K mg base sH 15 fa fd ["_law_script"] (@spLaw kn K)
def all_mk{w:WB}{K:Z1}{h:WD}{mg:ZM}{fa f od an oc sl kV dc pm cd ct}(X:K.In h)(G:h.Ns S6 mg)(hfa:mg "law"=Wb (.ref fa))(a:PySem.W.nsIn K S6 "law"=Wb (Wb<|.ref f))(l:K.lookup f=Wb ⟨oc,od,.func<|T5 "law" "law" (bU mz) (bb mz) (ao mz) .none kV dc pm an cd ct,sl⟩)(c:N8 K cd "law"=Wd)(k:P1 K (.ref f)=Wd)(t:∀P∈kn.T,∃c,PySem.W.codeHdIn K c P=Wd)(v:∀base,BM mg base->@Al kn K mg base):Fd w K mg fa:=by
 letI:Kon:=kn
 cases hfa.symm.trans (PySem.W.mg_of X G a);exact⟨_,λs v=>.of_eq rfl,t,λbase x x m=>letI:Cx:=⟨_,w,K,mg,base,v base m⟩;ok_law (iV (st:=mz) l c k) holds⟩
def walk{q:W7}{loose:ZL}{XP:(Str->Option Wx)->WD->Prop}{YP:WB->WD->Prop}{d:DefRec}(hd:d.params.defaults=[])(hY:∀(w:WB) (h:WD),YP w h->(fK w.params).In h/\∀P∈kn.T,h.get? P=Wb (PySem.W.tabObj #[]))(hC:∀(w:WB),∀P∈kn.T,(fK w.params).lookup P=Wc)(F:∀(w:WB) (mg:ZM) (fa:Wy) (h:WD),(fK w.params).In h->h.Ns S6 mg->mg d.name=Wb (.ref fa)->Fd w (fK w.params) mg fa):PySem.W.WalkO q loose XP YP PySem.Challenge.rw_floodtree_k31_land_answers.row.toRowW d [] (λf vs=>PySem.call f vs) :=
 letI:Kon:=kn
 BQ (l:=PySem.Challenge.rw_floodtree_k31_land_answers) (n:=63) (k:=15) (x:="_law_script") (sp:=λw=>spLaw<|fK w.params) rfl (by decide) hd ⟨rfl,by decide,by decide⟩ hY hC F λb b a ns hl tg hS=>⟨a,ns,rfl,hS,hl,tg,λb=>rfl⟩
end K31
open PySem PySem.W PyProof.Rows
set_option maxRecDepth 100000 in
set_option maxHeartbeats 0 in
theorem PySem.Challenge.cw_floodtree_k31_land_answers_holds : PySem.Challenge.rw_floodtree_k31_land_answers.Holds := by
 refine Hd.head (q:=view PySem.Challenge.pw_floodtree_k31_land_answers [0,2,3,4,5,6,7,8,9,10,11,12,13,14,16,17,18,20,21,22,23,24,26,27,28,30,31,33,34,35,36,37,38,39,40,41,42,43,44,45,46,47]) (H:=PySem.W.kmHook K31.fK [3,27,28,34,35,41,42,48,49,55,56,60,61,65,66,72,73,79,80,86,87,93,94,100,101,105,106,119,120,124,125,131,132,136,137,139,140,150,151,155,156,169,170,176,177,181,182,186,187,189,190,205,206,212,213,217,218,224,225,227,228,238,239,243,244,248,249,255,256,262,263,269,270,276,277,285,291,292,298,299,305,306,312,313,319,320,326,327,343,344,354,355,361,362,368,369,373,374,378,379,385,386,392,393,399,400,406,407,411,412,416,417,423,424,428,429,435,436,440,441] (λx=>by kernel_rfl) [89,96]) (N:=20000) ?_ K31.left rfl rfl rfl rfl (by decide +kernel) ⟨rfl,rfl,rfl,rfl,rfl,by decide +kernel⟩ ?w ?c
 case w=>w_witness2
 case c =>
  k_fill
  refine K31.walk rfl (λw h Y=>⟨PySem.W.km_in_of Y,PySem.W.km_tabs_of Y⟩) (λw=>?_) ?F
  case F =>
   intro w mg fa h KX G hmg;refine K31.all_mk KX G hmg (by k_is) (by k_is) (by k_is) (by k_is) ?t λbase m=>?_
   (case t=>exact List.forall_mem_cons.mpr ⟨⟨nat_lit 93,by kernel_rfl⟩,List.forall_mem_cons.mpr ⟨⟨nat_lit 100,by kernel_rfl⟩,λx h=>nomatch h⟩⟩)
   letI:L2.Kon:=K31.kn
   constructor
   case B=>constructor<;>(refine' PySem.W.mg_none_of KX G ?_;k_is)
   case kM|kW|kR|kL=>constructor<;>first|(constructor<;>k_is)|(unfold L2.cy;k_is)
   all_goals first
    |exact L2.def_mk KX G (by k_is) (by k_is) (by k_is) (by k_is) (by (intro _ _ _ _ _ _ us hl;first|(obtain⟨_,rfl⟩:=L2.xi hl;rfl)|(obtain⟨_,_,rfl⟩:=L2.uZ hl;rfl)|(obtain⟨_,_,_,rfl⟩:=L2.zV hl;rfl)|(obtain⟨_,_,_,_,rfl⟩:=L2.C4 hl;rfl)|(obtain⟨_,_,_,_,_,rfl⟩:=L2.len5 hl;rfl)))
    |exact L2.def_mkC KX G (by k_is) (by k_is) (by k_is) (by k_is) rfl (by (intro _ _ _ _ _ _ us hl;first|(obtain⟨_,rfl⟩:=L2.xi hl;rfl)|(obtain⟨_,_,rfl⟩:=L2.uZ hl;rfl)|(obtain⟨_,_,_,rfl⟩:=L2.zV hl;rfl)|(obtain⟨_,_,_,_,rfl⟩:=L2.C4 hl;rfl)|(obtain⟨_,_,_,_,_,rfl⟩:=L2.len5 hl;rfl)))
    |exact⟨m,by kernel_rfl,by first|exact List.Mem.head _|exact List.Mem.tail _ (List.Mem.head _)|exact List.Mem.tail _ (List.Mem.tail _ (List.Mem.head _)),by first|rfl|decide +kernel⟩
    |exact L2.meth_mk (by k_is) (by k_is) (by k_is) (by k_is) (by k_is) (by (intro _ _ _ _ _ _ us hl;first|(obtain⟨_,rfl⟩:=L2.xi hl;rfl)|(obtain⟨_,_,rfl⟩:=L2.uZ hl;rfl)|(obtain⟨_,_,_,rfl⟩:=L2.zV hl;rfl)|(obtain⟨_,_,_,_,rfl⟩:=L2.C4 hl;rfl)|(obtain⟨_,_,_,_,_,rfl⟩:=L2.len5 hl;rfl)))
    |exact L2.init_mk KX G (by k_is) (by k_is) (by k_is) (by k_is) (by k_is) (by k_is) (by k_is) (by k_is) (by (intro _ _ _ _ _ _ us hl;first|(obtain⟨_,rfl⟩:=L2.xi hl;rfl)|(obtain⟨_,_,rfl⟩:=L2.uZ hl;rfl)|(obtain⟨_,_,_,rfl⟩:=L2.zV hl;rfl)|(obtain⟨_,_,_,_,rfl⟩:=L2.C4 hl;rfl)|(obtain⟨_,_,_,_,_,rfl⟩:=L2.len5 hl;rfl)))
    |exact L2.l_mk KX G (by k_is) (by k_is) (by k_is) (by k_is) (by k_is) (by k_is) (by k_is) (by k_is) ⟨_,rfl⟩ (λx x x x x x us hl=>by obtain⟨_,_,_,rfl⟩:=L2.zV hl;exact⟨_,rfl,rfl⟩) (λx x x x x x us hl=>by obtain⟨_,_,rfl⟩:=L2.uZ (Nat.succ.inj hl);exact⟨_,rfl,rfl⟩)
  refine List.forall_mem_cons.mpr ⟨?_,List.forall_mem_cons.mpr ⟨?_,λx h=>nomatch h⟩⟩<;>kernel_rfl
 all_goals kernel_rfl
#print axioms PySem.Challenge.cw_floodtree_k31_land_answers_holds